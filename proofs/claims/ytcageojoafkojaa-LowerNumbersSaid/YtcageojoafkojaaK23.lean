/- Decide: a call's branches; the first whose conditions hold. -/
import Derived.Test.YtcageojoafkojaaK22
import Derived.Test.YtcageojoafkojaaK15
import Derived.WalkMore
import Derived.Test.YtcageojoafkojaaK20
import Derived.Test.YtcageojoafkojaaK02
import Derived.Deep.Slices
import Derived.ChangeArms
import Derived.ChangeSlices
import Derived.DataReads
import Derived.ProofKit
import Derived.ChangeOld
import Derived.SliceStrings
import Derived.OpenShut
import Derived.Test.YtcageojoafkojaaK13
import Derived.Test.YtcageojoafkojaaK12
import Derived.Test.YtcageojoafkojaaK11
import Derived.Test.YtcageojoafkojaaK19
import Derived.Test.YtcageojoafkojaaK06
namespace Go.Proofs.Ytcageojoafkojaa.Ir
open Go.RowKit Go.WideElems Go.Proofs.Ytcageojoafkojaa.Me
def Asc (cs : List CaV) : Prop := ∀ (i j : Nat) (c d : CaV), i < j → cs[i]? = some c → cs[j]? = some d → c.num < d.num
set_option maxHeartbeats 4000000 in
set_option maxRecDepth 100000 in
theorem branches_any (cs : List CaV) (n : Nat) (A : Option Addr) (cap d x : Nat) (w : World) (hn : cs.length = n) (hl : n ≤ 100000) (hs : Asc cs) (hR : Rd w 2 n A (cs.flatMap CaV.cells)) :
    Calls Try.prog 62 #[.agg #[.slice A n cap, .int .u32 d], .int .u32 x] w fun e w' => Below w.heap.size w w' ∧ ∃ B k c9, e = .returned (.slice B k c9) ∧ ((∃ c ∈ cs, c.num = x ∧ B = c.A ∧ k = c.brs.length) ∨ ((∀ c ∈ cs, c.num ≠ x) ∧ B = none ∧ k = 0)) := by
  have hbx : Bk (w.alloc (.cells #[.slice A n cap, .int .u32 d] 42)) w.heap.size 42 [.slice A n cap, .int .u32 d] := Bk.new _ _ _ rfl
  have hb := oneb w (.cells #[.slice A n cap, .int .u32 d] 42)
  have HR := Lib.hid (hR.below hb)
  have HB0 := Lib.hid hb
  have HN := Lib.hid hn
  have HS := Lib.hid hs
  go_enter Try.func62, Try.ntmps62
  go_upto_region 1 with fail
  generalize w.alloc _ = w2 at hbx hb HR HB0 ⊢
  have HBx := Lib.hid hbx
  have k0 := hbx.cell 0 rfl
  have kl := hbx.lt
  have HSe := Lib.hid (fun W (h : Below w2.heap.size w2 W) => search_any cs n A cap x W HN.out hl HS.out (HR.out.below h))
  clear hR hn hs hb hbx
  go_wp2_with fail
  refine (HSe.out _ (Below.refl _ _)).mono ?_
  clear HSe k0
  rintro e w3 ⟨hb3, i, f, rfl, h1, h2⟩
  have HB3 := Lib.hid (HB0.out.trans (hb3.mono HB0.out.size))
  have k0 := (HBx.out.kept hb3).cell 0 rfl
  have kl := (HBx.out.kept hb3).lt
  have HR3 := Lib.hid (HR.out.below hb3)
  clear hb3
  cases f with
  | true =>
    obtain ⟨c, hc, hx⟩ := h1 rfl
    have hi : i < n := by have := (List.getElem?_eq_some_iff.1 hc).1; rw [HN.out] at this; exact this
    obtain ⟨b, o, hA, hbl, hcell⟩ := HR3.out.one (f := CaV.cells) (fun _ => rfl) (by omega) (by omega)
    subst hA
    obtain ⟨c0, c1⟩ := case_cells hcell hc
    have HC := Lib.hid (show c ∈ cs ∧ c.num = x from ⟨List.mem_of_getElem? hc, hx⟩)
    clear h1 h2 hc hx hcell
    go_wp2_with fail
    go_ret
    exact ⟨HB3.out, _, _, _, rfl, Or.inl ⟨c, HC.out.1, HC.out.2, rfl, rfl⟩⟩
  | false =>
    have H2 := Lib.hid (h2 rfl)
    clear h1 h2
    go_wp2_with fail
    go_ret
    exact ⟨HB3.out, _, _, _, rfl, Or.inr ⟨H2.out, rfl, rfl⟩⟩
def allH (x : RcM) (b : BrV) : Bool := b.m.conds.all fun q => holdB q x
def brF (d : Nat) (brs : List BrV) (x : RcM) : Nat := match brs.find? (allH x) with | some b => b.m.act | none => d
theorem find_on {brs : List BrV} {x : RcM} {i : Nat} {b : BrV} (h : ∀ c ∈ brs.take i, allH x c = false) (hb : brs[i]? = some b) (hf : allH x b = false) : ∀ c ∈ brs.take (i + 1), allH x c = false := by
  intro y hy
  rw [List.take_add_one, hb] at hy
  rcases List.mem_append.1 hy with hy | hy
  · exact h y hy
  · simp only [Option.toList_some, List.mem_singleton] at hy; subst hy; exact hf
theorem brF_end {d : Nat} {brs : List BrV} {x : RcM} {i : Nat} (h : ∀ c ∈ brs.take i, allH x c = false) (hi : brs.length ≤ i) : brF d brs x = d := by
  rw [List.take_of_length_le hi] at h
  unfold brF
  rw [List.find?_eq_none.2 (fun c hc => by rw [h c hc]; decide)]
theorem brF_hit {d : Nat} {brs : List BrV} {x : RcM} {i : Nat} {b : BrV} (h : ∀ c ∈ brs.take i, allH x c = false) (hb : brs[i]? = some b) (hf : allH x b = true) : brF d brs x = b.m.act := by
  unfold brF
  have e : brs = brs.take i ++ b :: brs.drop (i + 1) := by
    have h1 := (List.getElem?_eq_some_iff.1 hb)
    obtain ⟨h2, h3⟩ := h1
    conv => lhs; rw [← List.take_append_drop i brs]
    rw [List.drop_eq_getElem_cons h2, h3]
  rw [e, List.find?_append, List.find?_eq_none.2 (fun c hc => by rw [h c hc]; decide), List.find?_cons_of_pos hf]
  rfl
def DecR (d : Nat) (cs : List CaV) (x : RcM) (r : Nat) : Prop := (x.arch ≠ 3221225534 ∧ r = 2147483648) ∨ (x.arch = 3221225534 ∧ ((∃ c ∈ cs, c.num = x.num ∧ r = brF d c.brs x) ∨ ((∀ c ∈ cs, c.num ≠ x.num) ∧ r = d)))
def DecPost (d : Nat) (cs : List CaV) (x : RcM) (w : World) (e : Ending) (w' : World) : Prop := ∃ r : Nat, e = .returned (.int .u32 r) ∧ Below w.heap.size w w' ∧ DecR d cs x r
theorem br_cells2 {w : World} {b o k : Nat} {l : List BrV} {x : BrV} (hc : ∀ k x, l[k]? = some x → ∀ j v, (BrV.cells x)[j]? = some v → w.cell? ⟨b, o + (k * 2 + j), none⟩ = some v) (h : l[k]? = some x) :
    w.cell? ⟨b, o + k * 2, none⟩ = some (.slice x.A x.m.conds.length x.cap) ∧ w.cell? ⟨b, o + k * 2 + 1, none⟩ = some (.int .u32 x.m.act) :=
  ⟨by have := hc k x h 0 _ rfl; simpa using this, by have := hc k x h 1 _ rfl; simpa [Nat.add_assoc] using this⟩
set_option maxHeartbeats 8000000 in
set_option maxRecDepth 100000 in
theorem decide_any (cs : List CaV) (n : Nat) (A : Option Addr) (cap d : Nat) (x : RcM) (w : World) (hn : cs.length = n) (hl : n ≤ 100000) (hs : Asc cs) (hP : PlanR w A cs) (hbl : ∀ c ∈ cs, c.brs.length ≤ 100000 ∧ ∀ b ∈ c.brs, b.m.conds.length ≤ 100000 ∧ ∀ q ∈ b.m.conds, q.ok) (hx : x.ok) :
    Calls Try.prog 25 #[.agg #[.slice A n cap, .int .u32 d], .agg #[.int .u32 x.num, .int .u32 x.arch, .int .u64 x.at_, .int .u64 x.a0, .int .u64 x.a1, .int .u64 x.a2, .int .u64 x.a3, .int .u64 x.a4, .int .u64 x.a5]] w (DecPost d cs x w) := by
  obtain ⟨hk1, hk2, hb⟩ := two_new w #[.slice A n cap, .int .u32 d] #[.int .u32 x.num, .int .u32 x.arch, .int .u64 x.at_, .int .u64 x.a0, .int .u64 x.a1, .int .u64 x.a2, .int .u64 x.a3, .int .u64 x.a4, .int .u64 x.a5] 42 81 (la := [.slice A n cap, .int .u32 d]) (lb := x.cells) rfl rfl
  have HP := Lib.hid (hP.below hb)
  have HN := Lib.hid hn
  have HS := Lib.hid hs
  have HL := Lib.hid hbl
  have HX := Lib.hid hx
  clear hP hn hs hbl hx
  go_enter Try.func25, Try.ntmps25
  go_upto_region 1 with fail
  generalize (w.alloc _).alloc _ = w2 at hk1 hk2 hb HP ⊢
  have HB0 := Lib.hid hb
  have hlt1 := hk1.lt
  have hlt2 := hk2.lt
  have HK1 := Lib.hid hk1
  have HK2 := Lib.hid hk2
  have q0 := hk1.cell 0 rfl
  have q1 := hk1.cell 1 rfl
  have y0 := hk2.cell 0 rfl
  have y1 := hk2.cell 1 rfl
  clear hk1 hk2 hb
  go_step3
  by_cases ha : x.arch = 3221225534
  · have e1 : ((x.arch : Int) != 3221225534) = false := by rw [ha]; decide
    have HA := Lib.hid ha
    have HBr := Lib.hid (fun W (h : Below w2.heap.size w2 W) => branches_any cs n A cap d x.num W HN.out hl HS.out (by have := (HP.out.below h).row.rd; rw [HN.out] at this; exact this))
    clear ha
    go_wp2_with fail
    go_step3
    go_wp2_with fail
    refine (HBr.out _ (Below.refl _ _)).mono ?_
    clear HBr q0 q1 y0 y1 e1
    rintro e w3 ⟨hb3, B, m, c9, rfl, hres⟩
    have HB3 := Lib.hid hb3
    obtain ⟨brs, hbrs⟩ : ∃ brs : List BrV, brs.length = m ∧ Rd w3 2 m B (brs.flatMap BrV.cells) ∧ (∀ b ∈ brs, Rd w3 4 b.m.conds.length b.A (b.m.conds.flatMap CondM.cells) ∧ b.m.conds.length ≤ 100000 ∧ ∀ q ∈ b.m.conds, q.ok) ∧ m ≤ 100000 ∧ ∀ r, r = brF d brs x → DecR d cs x r := by
      rcases hres with ⟨c, hc, hcx, rfl, rfl⟩ | ⟨hno, rfl, rfl⟩
      · exact ⟨c.brs, rfl, ((HP.out.brs c hc).below hb3).rd, fun b hb => ⟨(TRd.below (HP.out.con c hc b hb) hb3).rd, (HL.out c hc).2 b hb⟩, (HL.out c hc).1, fun r hr => Or.inr ⟨HA.out, Or.inl ⟨c, hc, hcx, hr⟩⟩⟩
      · exact ⟨[], rfl, Rd.nil _ _ _, by simp, by omega, fun r hr => Or.inr ⟨HA.out, Or.inr ⟨hno, hr⟩⟩⟩
    obtain ⟨hm, hRb, hCb, hml, hD⟩ := hbrs
    have HM := Lib.hid hm
    have HRb := Lib.hid hRb
    have HCb := Lib.hid hCb
    have HD := Lib.hid hD
    clear hm hRb hCb hD hres hb3
    go_wp2_with fail
    go_loopw [17] (fun iv wr => ∃ i : Nat, iv = .int .i64 i ∧ i ≤ m ∧ Hid (∀ c ∈ brs.take i, allH x c = false) ∧ Hid (Below w3.heap.size w3 wr)) (fun iv _ => m - (intOf iv).toNat)
    case atStart => exact ⟨0, rfl, Nat.zero_le _, Lib.hid (by simp), Below.refl _ _⟩
    case round =>
      obtain ⟨i, rfl, hi, HF, HB⟩ := hrel
      by_cases hlt : i < m
      · obtain ⟨b, hb⟩ : ∃ b, brs[i]? = some b := ⟨_, List.getElem?_eq_getElem (by have := HM.out; omega)⟩
        obtain ⟨rb, ro, hA, hrl, hcell⟩ := (HRb.out.below HB.out).one (f := BrV.cells) (fun _ => rfl) (by omega) (by omega)
        subst hA
        obtain ⟨c0, c1⟩ := br_cells2 hcell hb
        obtain ⟨hcr, hcn, hcok⟩ := HCb.out b (List.mem_of_getElem? hb)
        have HCr := Lib.hid (hcr.below HB.out)
        have HCo := Lib.hid hcok
        have HBb := Lib.hid hb
        have hbx : Bk (wr.alloc (.cells #[.slice b.A b.m.conds.length b.cap, .int .u32 b.m.act] 54)) wr.heap.size 54 [.slice b.A b.m.conds.length b.cap, .int .u32 b.m.act] := Bk.new _ _ _ rfl
        have hb6 := oneb wr (.cells #[.slice b.A b.m.conds.length b.cap, .int .u32 b.m.act] 54)
        have HCr6 := Lib.hid (HCr.out.below hb6)
        have HB6 := Lib.hid (HB.out.trans (hb6.mono HB.out.size))
        clear hcell hcr hcok hb HCr
        go_upto_region 6 with fail
        generalize wr.alloc _ = w6 at hbx HCr6 HB6 ⊢
        generalize wr.heap.size = xb at hbx ⊢
        have k0 := hbx.cell 0 rfl
        have kl := hbx.lt
        have HBx := Lib.hid hbx
        obtain ⟨nc, hnc⟩ : ∃ nc, nc = b.m.conds.length := ⟨_, rfl⟩
        rw [← hnc] at k0 hcn
        have HNC := Lib.hid hnc
        clear hbx hb6 c0 c1 hrl hnc HB
        go_wp2_with fail
        go_loopw [24] (fun jv wq => ∃ j : Nat, jv = .int .i64 j ∧ j ≤ nc ∧ Hid (∀ q ∈ b.m.conds.take j, holdB q x = true) ∧ Hid (Below w6.heap.size w6 wq)) (fun jv _ => nc - (intOf jv).toNat)
        case atStart => exact ⟨0, rfl, Nat.zero_le _, Lib.hid (by simp), Below.refl _ _⟩
        case round =>
          rename World => wq
          clear k0
          obtain ⟨j, rfl, hj, HG, HQ⟩ := hrel
          have HBq := Lib.hid (HB3.out.trans ((HB6.out.mono HB3.out.size).trans (HQ.out.mono (Nat.le_trans HB3.out.size HB6.out.size))))
          have HBw := Lib.hid (HB6.out.trans (HQ.out.mono HB6.out.size))
          have k1 := (HBx.out.kept HQ.out).cell 1 rfl
          have kl := (HBx.out.kept HQ.out).lt
          have hy := HK2.out.kept HBq.out
          have y0 := hy.cell 0 rfl
          have y1 := hy.cell 1 rfl
          have y2 := hy.cell 2 rfl
          have y3 := hy.cell 3 rfl
          have y4 := hy.cell 4 rfl
          have y5 := hy.cell 5 rfl
          have y6 := hy.cell 6 rfl
          have y7 := hy.cell 7 rfl
          have y8 := hy.cell 8 rfl
          have yl := hy.lt
          clear hy
          by_cases hlq : j < nc
          · obtain ⟨q, hq⟩ : ∃ q, b.m.conds[j]? = some q := ⟨_, List.getElem?_eq_getElem (by have := HNC.out; omega)⟩
            obtain ⟨qb, qo, hqA, hql, hqc⟩ := (HCr6.out.below HQ.out).one (fun _ => rfl) (by omega) (by have := HNC.out; omega)
            rw [hqA]
            obtain ⟨d0, d1, d2, d3⟩ := cond_cells hqc hq
            have hqk := HCo.out q (List.mem_of_getElem? hq)
            have hck := Lib.hid (fun W => Me.holds_any q.arg q.op q.mask q.val x W hqk.2.2.1 hqk.2.2.2.1 HX.out)
            have HXc := Lib.hid hq
            clear hqc hq hqk
            go_wp2_with fail
            refine (hck.out _).mono ?_
            clear hck d0 d1 d2 d3 k1 kl y0 y1 y2 y3 y4 y5 y6 y7 y8 yl
            rintro e w8 ⟨rfl, hb8⟩
            have HQ8 := Lib.hid ((HQ.out.alloc HQ.out.size (.cells #[.int .i64 q.arg, .int .u8 q.op, .int .u64 q.mask, .int .u64 q.val] 58)).trans (hb8.mono (by have := HQ.out.size; simp; omega)))
            clear hb8
            have hce : (⟨q.arg, q.op, q.mask, q.val⟩ : CondM) = q := rfl
            rw [hce]
            clear hce
            cases hz : holdB q x with
            | true =>
              have HG2 := Lib.hid (all_on HG.out HXc.out hz)
              clear hz
              go_wp2_with fail
              go_roundw
              case rel => exact ⟨j + 1, by go_num, by omega, HG2, HQ8⟩
              case measure => simp [intOf]; omega
            | false =>
              have HF2 := Lib.hid (find_on HF.out HBb.out (show allH x b = false from all_bad HXc.out hz))
              clear hz
              go_wp2_with fail
              go_roundw
              case rel => exact ⟨i + 1, by go_num, by omega, HF2, Lib.hid (HB6.out.trans (HQ8.out.mono HB6.out.size))⟩
              case measure => simp [intOf]; omega
          · have HV := Lib.hid (HD.out b.m.act (brF_hit HF.out HBb.out (show allH x b = true from all_end (by have := HNC.out; omega) HG.out)).symm)
            clear y0 y1 y2 y3 y4 y5 y6 y7 y8 yl
            go_wp2_with fail
            go_ret
            exact ⟨b.m.act, rfl, HB0.out.trans (HBq.out.mono HB0.out.size), HV.out⟩
      · have HV := Lib.hid (HD.out d (brF_end HF.out (by have := HM.out; omega)).symm)
        have q1 := ((HK1.out.kept HB3.out).kept HB.out).cell 1 rfl
        have hl1 := ((HK1.out.kept HB3.out).kept HB.out).lt
        go_wp2_with fail
        go_ret
        exact ⟨d, rfl, (HB0.out.trans (HB3.out.mono HB0.out.size)).trans (HB.out.mono (Nat.le_trans HB0.out.size HB3.out.size)), HV.out⟩
  · have e1 : ((x.arch : Int) != 3221225534) = true := by rw [bne_iff_ne]; omega
    have HA := Lib.hid ha
    clear ha
    go_wp2_with fail
    go_ret
    exact ⟨_, rfl, HB0.out, Or.inl ⟨HA.out, rfl⟩⟩
end Go.Proofs.Ytcageojoafkojaa.Ir
namespace Go.Proofs.Ytcageojoafkojaa.Ir
open Go.Proofs.Ytcageojoafkojaa.Me Go.RowKit
theorem plan_len {ms l : List RuleM} (h : Sorted ms l) : (ofF l).length ≤ ms.length := by
  have e := st_len' l none
  rw [← h.len]
  unfold ofF
  cases hs : l.foldl stF none with
  | none => simp [stE]
  | some x => rw [hs] at e; simp only at e; simp [stE]; omega
end Go.Proofs.Ytcageojoafkojaa.Ir
namespace Go.Proofs.Ytcageojoafkojaa.Lo
open Go.RowKit Go.Proofs.Ytcageojoafkojaa.Ju Go.Proofs.Ytcageojoafkojaa.Me Go.Proofs.Ytcageojoafkojaa.Ir
theorem csin_of {w : World} {A : Option Addr} {cs : List CaV} (h : PlanR w A cs) (hs : ∀ c ∈ cs, c.brs.length ≤ 100000 ∧ ∀ b ∈ c.brs, b.m.conds.length ≤ 100000 ∧ ∀ q ∈ b.m.conds, q.ok) : CsIn w cs A :=
  ⟨h.row.rd, fun c hc => ⟨(h.brs c hc).rd, (hs c hc).1, fun b hb => ⟨TRd.rd (h.con c hc b hb), (hs c hc).2 b hb⟩⟩⟩
end Go.Proofs.Ytcageojoafkojaa.Lo
namespace Go.Proofs.Ytcageojoafkojaa.Lo
open Go.RowKit Go.WideElems Go.Proofs.Ytcageojoafkojaa.Ju Go.Proofs.Ytcageojoafkojaa.Me Go.Proofs.Ytcageojoafkojaa.Ir
def actN (x : Nat) : Nat := 327680 + (x % 4000 + 1)
theorem clamp_act (x : Nat) : (327680 + Rec.clampN ((x % 4000 : Nat) + 1 : Int) : Nat) = actN x := by
  unfold Rec.clampN actN
  have : x % 4000 < 4000 := Nat.mod_lt _ (by omega)
  omega
/-- A case with one branch without conditions. -/
structure NumC (c : CaV) : Prop where
  num : c.num < 4294967296
  brs : c.brs = [⟨⟨[], actN c.num⟩, none, 0⟩]
theorem act_lt (x : Nat) : actN x < 4294967296 := by
  unfold actN
  have : x % 4000 < 4000 := Nat.mod_lt _ (by omega)
  omega
theorem NumC.wf {c : CaV} (h : NumC c) : CaWf c.m := ⟨h.num, fun b hb => by
  have hb : b ∈ c.brs.map BrV.m := hb
  rw [h.brs] at hb
  simp only [List.map_cons, List.map_nil, List.mem_singleton] at hb
  subst hb
  exact ⟨act_lt _, fun q hq => by cases hq⟩⟩
theorem NumC.size {c : CaV} (h : NumC c) : szC c.m = 9 := by
  show ((c.brs.map BrV.m).map szB).sum + 7 = 9
  rw [h.brs]; rfl
theorem NumC.small {c : CaV} (h : NumC c) : c.brs.length ≤ 100000 ∧ ∀ b ∈ c.brs, b.m.conds.length ≤ 100000 ∧ ∀ q ∈ b.m.conds, q.ok := by
  rw [h.brs]
  refine ⟨by simp, fun b hb => ?_⟩
  simp only [List.mem_singleton] at hb
  subst hb
  exact ⟨by simp, fun q hq => by cases hq⟩
theorem nums_wf {cs : List CaV} (h : ∀ c ∈ cs, NumC c) : ∀ c ∈ cs.map CaV.m, CaWf c := fun c hc => by
  obtain ⟨v, hv, rfl⟩ := List.mem_map.1 hc
  exact (h v hv).wf
theorem nums_size {cs : List CaV} (h : ∀ c ∈ cs, NumC c) : ((cs.map CaV.m).map szC).sum ≤ 9 * cs.length := by
  have := sum_le szC 9 (cs.map CaV.m) fun c hc => by
    obtain ⟨v, hv, rfl⟩ := List.mem_map.1 hc
    exact Nat.le_of_eq (h v hv).size
  simpa using this
abbrev Rising (cs : List CaV) : Prop := cs.Pairwise fun a b => a.num < b.num
theorem rising_asc {cs : List CaV} (h : Rising cs) : Asc cs := fun i j c d hij hc hd => by
  obtain ⟨h1, rfl⟩ := List.getElem?_eq_some_iff.1 hc
  obtain ⟨h2, rfl⟩ := List.getElem?_eq_some_iff.1 hd
  exact List.pairwise_iff_getElem.1 h i j h1 h2 hij
theorem rising_map {cs : List CaV} (h : Rising cs) : (cs.map CaV.m).Pairwise fun a b => a.num < b.num := List.pairwise_map.2 h
theorem take_more {cs : List CaV} {i x : Nat} {c : CaV} (h : ∀ c ∈ cs.take i, c.num < x) (hc : cs[i]? = some c) (hx : c.num < x) : ∀ c ∈ cs.take (i + 1), c.num < x := by
  intro y hy
  rw [List.take_add_one, hc] at hy
  rcases List.mem_append.1 hy with hy | hy
  · exact h y hy
  · simp at hy; subst hy; exact hx
theorem ins_rising {cs : List CaV} {i : Nat} {n : CaV} (h : Rising cs) (h1 : ∀ c ∈ cs.take i, c.num < n.num) (h2 : ∀ c, cs[i]? = some c → n.num < c.num) : Rising (cs.take i ++ n :: cs.drop i) := by
  have hsplit := h
  unfold Rising at hsplit
  rw [← List.take_append_drop i cs] at hsplit
  obtain ⟨ha, hb, hab⟩ := List.pairwise_append.1 hsplit
  have hd : ∀ c ∈ cs.drop i, n.num < c.num := fun c hc => by
    obtain ⟨j, hj⟩ := List.mem_iff_getElem?.1 hc
    rw [List.getElem?_drop] at hj
    obtain ⟨hl, rfl⟩ := List.getElem?_eq_some_iff.1 hj
    have hi : i < cs.length := by omega
    have h0 := h2 cs[i] (List.getElem?_eq_getElem hi)
    rcases Nat.eq_zero_or_pos j with rfl | hp
    · exact h0
    · exact Nat.lt_trans h0 (List.pairwise_iff_getElem.1 h i (i + j) hi hl (by omega))
  refine List.pairwise_append.2 ⟨ha, List.pairwise_cons.2 ⟨hd, hb⟩, fun a haa b hbb => ?_⟩
  rcases List.mem_cons.1 hbb with rfl | hbb
  · exact h1 a haa
  · exact hab a haa b hbb
theorem ins_nums {cs : List CaV} {i : Nat} {n : CaV} (h : ∀ c ∈ cs, NumC c) (hn : NumC n) : ∀ c ∈ cs.take i ++ n :: cs.drop i, NumC c := fun c hc => by
  rcases List.mem_append.1 hc with hc | hc
  · exact h c (List.mem_of_mem_take hc)
  · rcases List.mem_cons.1 hc with rfl | hc
    · exact hn
    · exact h c (List.mem_of_mem_drop hc)
theorem ins_len {cs : List CaV} {i : Nat} {n : CaV} (hi : i ≤ cs.length) : (cs.take i ++ n :: cs.drop i).length = cs.length + 1 := by
  simp only [List.length_append, List.length_cons, List.length_take, List.length_drop]
  omega
theorem num_br {c : CaV} (h : NumC c) (d : Nat) (x : RcM) : brF d c.brs x = actN c.num := by
  rw [h.brs]; rfl
theorem num_brs {c : CaV} (h : NumC c) (d : Nat) (x : RcM) : brsV x c.m.brs d = actN c.num := by
  show brsV x (c.brs.map BrV.m) d = _
  rw [h.brs]; rfl
/-- What is decided is what the list of cases says. -/
theorem dec_ca {d : Nat} {cs : List CaV} {x : RcM} {r : Nat} (h : ∀ c ∈ cs, NumC c) (hr : DecR d cs x r) : r = if x.arch = 3221225534 then caV x d (cs.map CaV.m) x.num else 2147483648 := by
  rcases hr with ⟨ha, rfl⟩ | ⟨ha, hr⟩
  · rw [if_neg ha]
  rw [if_pos ha]
  unfold caV
  rcases hr with ⟨c, hc, hn, rfl⟩ | ⟨hno, rfl⟩
  · cases hf : (cs.map CaV.m).find? (fun c => decide (x.num = c.num)) with
    | none =>
      have := List.find?_eq_none.1 hf c.m (List.mem_map.2 ⟨c, hc, rfl⟩)
      simp only [decide_eq_true_eq] at this
      exact absurd hn.symm this
    | some q =>
      have hm := List.mem_of_find?_eq_some hf
      have he := List.find?_some hf
      simp only [decide_eq_true_eq] at he
      obtain ⟨v, hv, rfl⟩ := List.mem_map.1 hm
      rw [num_br (h c hc)]
      show _ = brsV x v.m.brs d
      rw [num_brs (h v hv)]
      have : v.num = x.num := he.symm
      rw [this, hn]
  · cases hf : (cs.map CaV.m).find? (fun c => decide (x.num = c.num)) with
    | none => rfl
    | some q =>
      have hm := List.mem_of_find?_eq_some hf
      have he := List.find?_some hf
      simp only [decide_eq_true_eq] at he
      obtain ⟨v, hv, rfl⟩ := List.mem_map.1 hm
      exact absurd he.symm (hno v hv)
/-- The code of a plan by hand is made, and says what the list of cases says. -/
theorem nums_made {cs : List CaV} {d : Nat} (hd : d < 4294967296) (h : ∀ c ∈ cs, NumC c) (hl : cs.length ≤ 100) : MadeR (planL d (cs.map CaV.m)) ∧ (planL d (cs.map CaV.m)).length ≤ 1000 ∧ ∀ p ∈ planL d (cs.map CaV.m), p.ok := by
  have hsz := nums_size h
  have hln := Lo.plan_len d (cs.map CaV.m)
  have hpl : (planL d (cs.map CaV.m)).length ≤ 1000 := by omega
  have HPf := plan_fine hd (nums_wf h) (by
    have h1 := search_cnt d (cs.map CaV.m).length 2 (cs.map CaV.m)
    by_cases h0 : cs.map CaV.m = []
    · rw [h0]; show (2 : Nat) ≤ _; omega
    · have h2 := search_len d (cs.map CaV.m).length 2 (cs.map CaV.m) (Nat.le_refl _) h0
      omega)
  have hw := wt_len (planL d (cs.map CaV.m))
  exact ⟨made_of (plan_fwd d (cs.map CaV.m)) HPf.fin (plan_last d (cs.map CaV.m)) (by omega), hpl, HPf.ok⟩
theorem nums_say {cs : List CaV} {d : Nat} (hp : Rising cs) (h : ∀ c ∈ cs, NumC c) (hm : MadeR (planL d (cs.map CaV.m))) {x : RcM} (hx : x.ok) {bs : List Nat} (hs : Sees (recW bs) x) {r : Nat} (hr : DecR d cs x r) :
    (runN (recW bs) (makeF (planL d (cs.map CaV.m))).2.ins).2 = r := by
  rw [made_says hm (rising_map hp) (nums_wf h) hx hs, dec_ca h hr]
end Go.Proofs.Ytcageojoafkojaa.Lo
namespace Go.Proofs.Ytcageojoafkojaa
set_option maxRecDepth 100000
open Go.ChangeShapes Go.WideShapes Go.ChangeAt Go.RowKit Go.Deep
section
variable {H : Type} {enc : TypeId × Value → H} {w : World} {base : Nat} {spare : Nat → Bool} {held : Bool} {fuel : Nat} {x : DataW H × List MemPlace} {A : Option Addr} {len cap : Nat}
theorem add_at (b o j : Nat) : (⟨b, o, none⟩ : Addr).add j = ⟨b, o + j, none⟩ := by unfold Addr.add; split <;> simp_all
end
end Go.Proofs.Ytcageojoafkojaa
namespace Go.Proofs.Ytcageojoafkojaa
set_option maxRecDepth 100000
open Go.ChangeShapes Go.WideShapes Go.ChangeAt Go.RowKit Go.Deep
section
variable {H : Type} {enc : TypeId × Value → H} {w : World} {base : Nat} {spare : Nat → Bool} {held : Bool} {fuel : Nat} {x : DataW H × List MemPlace} {A : Option Addr} {len cap : Nat}
end
end Go.Proofs.Ytcageojoafkojaa
namespace Go.Proofs.Ytcageojoafkojaa.Lo
open Go.Proofs.Ytcageojoafkojaa.Ju
theorem sml_i {a b c d : Nat} (h1 : a < 65536) (h2 : b < 256) (h3 : c < 256) (h4 : d < 4294967296) : Ins.ok ⟨a, b, c, d⟩ := ⟨h1, h2, h3, h4⟩
theorem skip_okI {n : Nat} (h : n < 4294967296) : (skipI n).ok := sml_i (by omega) (by omega) (by omega) h
theorem reach_ok {l : List Ins} {b : Nat} (hl : ∀ i ∈ l, i.ok) (hn : l.length ≤ 5000) : ∀ i ∈ (reachF l b).2, i.ok := by
  unfold reachF
  split
  · exact hl
  · intro i hi
    rcases List.mem_cons.1 hi with rfl | hi
    · exact skip_okI (by omega)
    · exact hl i hi
theorem lay_oks {p : PtM} {c : CdM} (hp : p.ok) (hc : ∀ i ∈ c.ins, i.ok) (hn : c.ins.length ≤ 4096) : ∀ i ∈ (layF p c).2.ins, i.ok := by
  unfold layF
  split
  · split <;> exact hc
  · split
    · split
      · exact hc
      · intro i hi
        rcases List.mem_cons.1 hi with rfl | hi
        · exact hp.i
        · exact hc i hi
    · split
      · split
        · exact hc
        · split
          · intro i hi
            rename_i bt bf _ _
            have h1 := reach_len c.ins bf
            have h2 := reach_len (reachF c.ins bf).2 bt
            rcases List.mem_cons.1 hi with rfl | hi
            · exact sml_i hp.i.1 (by omega) (by omega) hp.i.2.2.2
            · exact reach_ok (reach_ok hc (by omega)) (by omega) i hi
          · exact hc
      · split
        · split
          · intro i hi
            rcases List.mem_cons.1 hi with rfl | hi
            · exact skip_okI (by omega)
            · exact hc i hi
          · exact hc
        · exact hc
theorem make_oks : ∀ l : List PtM, (∀ q ∈ l, q.ok) → (makeF l).1 = 0 → ∀ i ∈ (makeF l).2.ins, i.ok
  | [], _, _ => fun i hi => by simp [makeF] at hi
  | p :: t, hl, h => by
    rw [makeF_cons] at h ⊢
    obtain ⟨h0, _, h2⟩ := step_zero h
    rw [h2]
    exact lay_oks (hl p List.mem_cons_self) (make_oks t (fun q hq => hl q (List.mem_cons_of_mem _ hq)) h0) (make_len t h0)
theorem own_rdI {w : World} {B n : Nat} {A : Option Addr} {c : Nat} {xs : List Value} (h : w.ownsRow B 122 4 (.slice A n c) n xs) : Rd w 4 n A xs := by
  obtain ⟨A9, c9, e, _, h, _⟩ := own_typed h
  cases e
  exact h.rd
theorem smJ {n : Nat} (h : n ≤ 1000000) : Small40 n := by unfold Small40; omega
end Go.Proofs.Ytcageojoafkojaa.Lo
namespace Go.Proofs.Ytcageojoafkojaa.Lo
open Go.RowKit Go.Maps Go.WideMaps Go.WideElems Go.ChangeMaps Go.Proofs.Ytcageojoafkojaa.Ju Go.Proofs.Ytcageojoafkojaa.Me Go.Proofs.Ytcageojoafkojaa.Ir
set_option maxRecDepth 100000
theorem none_made : MadeR (planL 2147221504 []) := made_of (plan_fwd _ _) (plan_fine (by omega) (by simp) (by show (2 : Nat) ≤ _; omega)).fin (plan_last _ _) (by have := wt_len (planL 2147221504 []); have := plan_len 2147221504 []; simp at this; omega)
theorem none_ok : ∀ p ∈ planL 2147221504 [], p.ok := (plan_fine (by omega) (by simp) (by show (2 : Nat) ≤ _; omega)).ok
theorem says_2 : ∃ b1 b2 : List Nat, Rec.IsRec b1 ∧ Rec.IsRec b2 ∧ Rec.recL b1 = [.int .u32 0, .int .u32 3221225534, .int .u64 0, .int .u64 0, .int .u64 0, .int .u64 0, .int .u64 0, .int .u64 0, .int .u64 0] ∧ Rec.recL b2 = [.int .u32 0, .int .u32 0, .int .u64 0, .int .u64 0, .int .u64 0, .int .u64 0, .int .u64 0, .int .u64 0, .int .u64 0] ∧
    (runN (recW b1) (makeF (planL 2147221504 [])).2.ins).2 = 2147221504 ∧ (runN (recW b2) (makeF (planL 2147221504 [])).2.ins).2 = 2147483648 := by
  have h1 : (⟨0, 3221225534, 0, 0, 0, 0, 0, 0, 0⟩ : RcM).ok := ⟨by simp, by simp, by simp, by simp, by simp, by simp, by simp, by simp, by simp⟩
  have h2 : (⟨0, 0, 0, 0, 0, 0, 0, 0, 0⟩ : RcM).ok := ⟨by simp, by simp, by simp, by simp, by simp, by simp, by simp, by simp, by simp⟩
  obtain ⟨b1, i1, r1, s1⟩ := rec_bs _ h1
  obtain ⟨b2, i2, r2, s2⟩ := rec_bs _ h2
  refine ⟨b1, b2, i1, i2, r1, r2, ?_, ?_⟩
  · rw [made_says none_made List.Pairwise.nil (by simp) h1 s1]; rfl
  · rw [made_says none_made List.Pairwise.nil (by simp) h2 s2]; rfl
set_option maxHeartbeats 8000000 in
theorem awake_any (w : World) : Calls Try.prog 22 #[] w (Ju.RetB true w) := by
  have hPk := plan_len 2147221504 []
  rw [List.map_nil, List.sum_nil] at hPk
  have HP := Lib.hid (fun W => plan_any [] none 0 0 2147221504 W ⟨Rd.nil _ _ _, by simp⟩ rfl (Nat.le_refl _) (by omega) (by rw [List.map_nil]; omega))
  obtain ⟨b1, b2, i1, i2, r1, r2, s1, s2⟩ := says_2
  have HMd := Lib.hid none_made
  have HOk := Lib.hid none_ok
  rw [show ([] : List CaV).map CaV.m = [] from rfl] at HP
  obtain ⟨PL, hPL⟩ : ∃ z, z = planL 2147221504 [] := ⟨_, rfl⟩
  rw [← hPL] at HP HMd HOk hPk s1 s2
  obtain ⟨N, hN⟩ : ∃ z, z = PL.length := ⟨_, rfl⟩
  unfold PtPost at HP
  rw [← hN] at HP hPk
  have HPk := Lib.hid hN.symm
  have HS1 := Lib.hid s1
  have HS2 := Lib.hid s2
  have HI1 := Lib.hid i1
  have HI2 := Lib.hid i2
  have HE1 := Lib.hid r1
  have HE2 := Lib.hid r2
  clear hPL hN s1 s2 i1 i2 r1 r2
  go_enter Try.func22, Try.ntmps22
  go_wp2_with fail
  refine (HP.out _).mono ?_
  rintro e w1 ⟨A1, c1, rfl, hr1, hb1⟩
  have HR1 := Lib.hid hr1
  have HBw := Lib.hid hb1
  clear hr1 hb1 HP
  go_wp2_with fail
  refine (make_any PL N A1 c1 w1 HPk.out (by omega) HOk.out HR1.out).mono ?_
  rintro e w2 ⟨hb2, hmk, _⟩
  obtain ⟨v, hr, rfl⟩ := hmk HMd.out.ok
  have HIk := Lib.hid (make_oks PL HOk.out HMd.out.ok)
  have HIl := Lib.hid (make_len PL HMd.out.ok)
  have HGd := Lib.hid HMd.out.good
  have HSay := Lib.hid HMd.out.says
  obtain ⟨ins, hins⟩ : ∃ i, i = (makeF PL).2.ins := ⟨_, rfl⟩
  rw [← hins] at hr HIk HIl HGd HSay HS1 HS2
  obtain ⟨K, hK⟩ : ∃ K, K = ins.length := ⟨_, rfl⟩
  rw [← hK] at hr HIl
  have hK4 : K ≤ 4096 := HIl.out
  obtain ⟨Aa, ca, rfl, _⟩ := own_typed hr
  have HBw := Lib.hid (HBw.out.trans (hb2.mono HBw.out.size))
  have HKl := Lib.hid hK.symm
  have HL1 := Lib.hid (load_any ins K Aa ca w2 hK.symm HIk.out (own_rdI hr) (by unfold maxLen; omega))
  clear hb2 hmk hr hins hK HMd HIl
  go_wp2_with fail
  refine HL1.out.mono ?_
  rintro e w3 ⟨_, _, _, hb3, hgood | ⟨hbad, _⟩⟩
  rotate_left 1
  · exact absurd HGd.out hbad
  obtain ⟨_, rfl, rfl, p, fb, fo, fc, hp, hpb, rfl, hF⟩ := hgood
  have HPw := Lib.hid (show w.heap.size ≤ p from Nat.le_trans HBw.out.size hp)
  have HPw2 := Lib.hid (show w2.heap.size ≤ p from hp)
  have HBw := Lib.hid (HBw.out.trans (hb3.mono HBw.out.size))
  have HB23 := Lib.hid hb3
  go_upto_region 3 with fail
  have hx := Bk.new w3 76 #[.int .i64 0, .int .i64 0] (l := [.int .i64 0, .int .i64 0]) rfl
  have hb4 := oneb w3 (.cells #[.int .i64 0, .int .i64 0] 76)
  generalize World.alloc w3 _ = w4 at hx hb4 ⊢
  have hF4 := hF.below hb4
  obtain ⟨BB, hBB⟩ : ∃ b, b = w3.heap.size := ⟨_, rfl⟩
  have HBw := Lib.hid (HBw.out.trans (hb4.mono HBw.out.size))
  have HB24 := Lib.hid (HB23.out.trans (hb4.mono HB23.out.size))
  rw [← hBB] at hF4 hx ⊢
  have HF := Lib.hid hF4
  have HX := Lib.hid hx
  have HXp := Lib.hid (show BB ≠ p by have := hF4.lp; omega)
  clear hb3 hp hpb hF hx hb4 hF4 hBB HL1 HB23
  have hnl := run_len (recW b1) ins
  rw [HKl.out] at hnl
  have R1 := Lib.hid (run_any b1 ins BB p fb fo fc 0 0 w4 HF.out HGd.out HIk.out HI1.out (smJ (by omega)) (smJ (by omega)))
  have R2 := Lib.hid (fun W rn st h hs1 hs2 => run_any b2 ins BB p fb fo fc rn st W h HGd.out HIk.out HI2.out (smJ hs1) (smJ hs2))
  unfold RunTo at R1 R2
  rw [HS1.out, HE1.out] at R1
  rw [HS2.out, HE2.out] at R2
  obtain ⟨n1, hn1⟩ : ∃ n, n = (runN (recW b1) ins).1.length := ⟨_, rfl⟩
  rw [← hn1] at R1 hnl
  obtain ⟨n2, hn2⟩ : ∃ n, n = (runN (recW b2) ins).1.length := ⟨_, rfl⟩
  rw [← hn2] at R2
  clear hn1 hn2
  go_wp2_with fail
  refine R1.out.mono ?_
  rintro e w5 ⟨rfl, hf5, hg5⟩
  have HF := Lib.hid hf5
  have HX := Lib.hid (HX.out.grown hg5 (fun e => by injection e with e; exact HXp.out e))
  have HBw := Lib.hid (only_below HBw.out hg5 HBw.out.size HPw.out)
  clear hf5 hg5 R1
  go_wp2_with fail
  refine (R2.out _ _ _ HF.out (by omega) (by omega)).mono ?_
  rintro e w6 ⟨rfl, hf6, hg6⟩
  have hx := HX.out.grown hg6 (fun e => by injection e with e; exact HXp.out e)
  have HBw := Lib.hid (only_below HBw.out hg6 HBw.out.size HPw.out)
  have y0 := hx.cell 0 rfl
  have y1 := hx.cell 1 rfl
  have yl := hx.lt
  have hQ : ∀ W : World, (binOp .eql 76 (.agg #[.int .i64 0, .int .i64 0]) (.agg #[.int .i64 0, .int .i64 0])).run Try.prog W = .ok (.bool true) W := fun W => by kernel_rfl
  clear hf6 hg6 hx R2
  go_wp2_with fail
  go_ret
  exact ⟨rfl, HBw.out⟩
end Go.Proofs.Ytcageojoafkojaa.Lo
