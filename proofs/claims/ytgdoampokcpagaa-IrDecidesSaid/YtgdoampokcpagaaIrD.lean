/- Decide: a call's branches; the first whose conditions hold. -/
import Derived.Test.YtgdoampokcpagaaIrB
import Derived.Test.YtgdoampokcpagaaMeR
import Derived.WalkMore
namespace Go.Proofs.Ytgdoampokcpagaa.Ir
open Go.RowKit Go.WideElems Go.Proofs.Ytgdoampokcpagaa.Me
def Asc (cs : List CaV) : Prop := ∀ (i j : Nat) (c d : CaV), i < j → cs[i]? = some c → cs[j]? = some d → c.num < d.num
set_option maxHeartbeats 4000000 in
set_option maxRecDepth 100000 in
theorem branches_any (cs : List CaV) (n : Nat) (A : Option Addr) (cap d x : Nat) (w : World) (hn : cs.length = n) (hl : n ≤ 100000) (hs : Asc cs) (hR : Rd w 2 n A (cs.flatMap CaV.cells)) :
    Calls Try.prog 26 #[.agg #[.slice A n cap, .int .u32 d], .int .u32 x] w fun e w' => Below w.heap.size w w' ∧ ∃ B k c9, e = .returned (.slice B k c9) ∧ ((∃ c ∈ cs, c.num = x ∧ B = c.A ∧ k = c.brs.length) ∨ ((∀ c ∈ cs, c.num ≠ x) ∧ B = none ∧ k = 0)) := by
  have hbx : Bk (w.alloc (.cells #[.slice A n cap, .int .u32 d] 43)) w.heap.size 43 [.slice A n cap, .int .u32 d] := Bk.new _ _ _ rfl
  have hb := oneb w (.cells #[.slice A n cap, .int .u32 d] 43)
  have HR := Lib.hid (hR.below hb)
  have HB0 := Lib.hid hb
  have HN := Lib.hid hn
  have HS := Lib.hid hs
  go_enter Try.func26, Try.ntmps26
  go_upto_region 1 with fail
  generalize w.alloc _ = w2 at hbx hb HR HB0 ⊢
  have HBx := Lib.hid hbx
  have k0 := hbx.cell 0 rfl
  have kl := hbx.lt
  have HSe := Lib.hid (fun W (h : Below w2.heap.size w2 W) => search_any cs n A cap x W HN.out hl HS.out (HR.out.below h))
  clear hR hn hs hb hbx
  go_wp2_with fail
  refine (HSe.out _ (Below.refl _ _)).mono ?_
  clear HSe k0
  rintro e w3 ⟨hb3, i, f, rfl, h1, h2⟩
  have HB3 := Lib.hid (HB0.out.trans (hb3.mono HB0.out.size))
  have k0 := (HBx.out.kept hb3).cell 0 rfl
  have kl := (HBx.out.kept hb3).lt
  have HR3 := Lib.hid (HR.out.below hb3)
  clear hb3
  cases f with
  | true =>
    obtain ⟨c, hc, hx⟩ := h1 rfl
    have hi : i < n := by have := (List.getElem?_eq_some_iff.1 hc).1; rw [HN.out] at this; exact this
    obtain ⟨b, o, hA, hbl, hcell⟩ := HR3.out.one (f := CaV.cells) (fun _ => rfl) (by omega) (by omega)
    subst hA
    obtain ⟨c0, c1⟩ := case_cells hcell hc
    have HC := Lib.hid (show c ∈ cs ∧ c.num = x from ⟨List.mem_of_getElem? hc, hx⟩)
    clear h1 h2 hc hx hcell
    go_wp2_with fail
    go_ret
    exact ⟨HB3.out, _, _, _, rfl, Or.inl ⟨c, HC.out.1, HC.out.2, rfl, rfl⟩⟩
  | false =>
    have H2 := Lib.hid (h2 rfl)
    clear h1 h2
    go_wp2_with fail
    go_ret
    exact ⟨HB3.out, _, _, _, rfl, Or.inr ⟨H2.out, rfl, rfl⟩⟩
def allH (x : RcM) (b : BrV) : Bool := b.m.conds.all fun q => holdB q x
def brF (d : Nat) (brs : List BrV) (x : RcM) : Nat := match brs.find? (allH x) with | some b => b.m.act | none => d
theorem find_on {brs : List BrV} {x : RcM} {i : Nat} {b : BrV} (h : ∀ c ∈ brs.take i, allH x c = false) (hb : brs[i]? = some b) (hf : allH x b = false) : ∀ c ∈ brs.take (i + 1), allH x c = false := by
  intro y hy
  rw [List.take_add_one, hb] at hy
  rcases List.mem_append.1 hy with hy | hy
  · exact h y hy
  · simp only [Option.toList_some, List.mem_singleton] at hy; subst hy; exact hf
theorem brF_end {d : Nat} {brs : List BrV} {x : RcM} {i : Nat} (h : ∀ c ∈ brs.take i, allH x c = false) (hi : brs.length ≤ i) : brF d brs x = d := by
  rw [List.take_of_length_le hi] at h
  unfold brF
  rw [List.find?_eq_none.2 (fun c hc => by rw [h c hc]; decide)]
theorem brF_hit {d : Nat} {brs : List BrV} {x : RcM} {i : Nat} {b : BrV} (h : ∀ c ∈ brs.take i, allH x c = false) (hb : brs[i]? = some b) (hf : allH x b = true) : brF d brs x = b.m.act := by
  unfold brF
  have e : brs = brs.take i ++ b :: brs.drop (i + 1) := by
    have h1 := (List.getElem?_eq_some_iff.1 hb)
    obtain ⟨h2, h3⟩ := h1
    conv => lhs; rw [← List.take_append_drop i brs]
    rw [List.drop_eq_getElem_cons h2, h3]
  rw [e, List.find?_append, List.find?_eq_none.2 (fun c hc => by rw [h c hc]; decide), List.find?_cons_of_pos hf]
  rfl
def DecR (d : Nat) (cs : List CaV) (x : RcM) (r : Nat) : Prop := (x.arch ≠ 3221225534 ∧ r = 2147483648) ∨ (x.arch = 3221225534 ∧ ((∃ c ∈ cs, c.num = x.num ∧ r = brF d c.brs x) ∨ ((∀ c ∈ cs, c.num ≠ x.num) ∧ r = d)))
def DecPost (d : Nat) (cs : List CaV) (x : RcM) (w : World) (e : Ending) (w' : World) : Prop := ∃ r : Nat, e = .returned (.int .u32 r) ∧ Below w.heap.size w w' ∧ DecR d cs x r
theorem br_cells2 {w : World} {b o k : Nat} {l : List BrV} {x : BrV} (hc : ∀ k x, l[k]? = some x → ∀ j v, (BrV.cells x)[j]? = some v → w.cell? ⟨b, o + (k * 2 + j), none⟩ = some v) (h : l[k]? = some x) :
    w.cell? ⟨b, o + k * 2, none⟩ = some (.slice x.A x.m.conds.length x.cap) ∧ w.cell? ⟨b, o + k * 2 + 1, none⟩ = some (.int .u32 x.m.act) :=
  ⟨by have := hc k x h 0 _ rfl; simpa using this, by have := hc k x h 1 _ rfl; simpa [Nat.add_assoc] using this⟩
set_option maxHeartbeats 8000000 in
set_option maxRecDepth 100000 in
theorem decide_any (cs : List CaV) (n : Nat) (A : Option Addr) (cap d : Nat) (x : RcM) (w : World) (hn : cs.length = n) (hl : n ≤ 100000) (hs : Asc cs) (hP : PlanR w A cs) (hbl : ∀ c ∈ cs, c.brs.length ≤ 100000 ∧ ∀ b ∈ c.brs, b.m.conds.length ≤ 100000 ∧ ∀ q ∈ b.m.conds, q.ok) (hx : x.ok) :
    Calls Try.prog 11 #[.agg #[.slice A n cap, .int .u32 d], .agg #[.int .u32 x.num, .int .u32 x.arch, .int .u64 x.at_, .int .u64 x.a0, .int .u64 x.a1, .int .u64 x.a2, .int .u64 x.a3, .int .u64 x.a4, .int .u64 x.a5]] w (DecPost d cs x w) := by
  obtain ⟨hk1, hk2, hb⟩ := two_new w #[.slice A n cap, .int .u32 d] #[.int .u32 x.num, .int .u32 x.arch, .int .u64 x.at_, .int .u64 x.a0, .int .u64 x.a1, .int .u64 x.a2, .int .u64 x.a3, .int .u64 x.a4, .int .u64 x.a5] 43 49 (la := [.slice A n cap, .int .u32 d]) (lb := x.cells) rfl rfl
  have HP := Lib.hid (hP.below hb)
  have HN := Lib.hid hn
  have HS := Lib.hid hs
  have HL := Lib.hid hbl
  have HX := Lib.hid hx
  clear hP hn hs hbl hx
  go_enter Try.func11, Try.ntmps11
  go_upto_region 1 with fail
  generalize (w.alloc _).alloc _ = w2 at hk1 hk2 hb HP ⊢
  have HB0 := Lib.hid hb
  have hlt1 := hk1.lt
  have hlt2 := hk2.lt
  have HK1 := Lib.hid hk1
  have HK2 := Lib.hid hk2
  have q0 := hk1.cell 0 rfl
  have q1 := hk1.cell 1 rfl
  have y0 := hk2.cell 0 rfl
  have y1 := hk2.cell 1 rfl
  clear hk1 hk2 hb
  go_step3
  by_cases ha : x.arch = 3221225534
  · have e1 : ((x.arch : Int) != 3221225534) = false := by rw [ha]; decide
    have HA := Lib.hid ha
    have HBr := Lib.hid (fun W (h : Below w2.heap.size w2 W) => branches_any cs n A cap d x.num W HN.out hl HS.out (by have := (HP.out.below h).row.rd; rw [HN.out] at this; exact this))
    clear ha
    go_wp2_with fail
    go_step3
    go_wp2_with fail
    refine (HBr.out _ (Below.refl _ _)).mono ?_
    clear HBr q0 q1 y0 y1 e1
    rintro e w3 ⟨hb3, B, m, c9, rfl, hres⟩
    have HB3 := Lib.hid hb3
    obtain ⟨brs, hbrs⟩ : ∃ brs : List BrV, brs.length = m ∧ Rd w3 2 m B (brs.flatMap BrV.cells) ∧ (∀ b ∈ brs, Rd w3 4 b.m.conds.length b.A (b.m.conds.flatMap CondM.cells) ∧ b.m.conds.length ≤ 100000 ∧ ∀ q ∈ b.m.conds, q.ok) ∧ m ≤ 100000 ∧ ∀ r, r = brF d brs x → DecR d cs x r := by
      rcases hres with ⟨c, hc, hcx, rfl, rfl⟩ | ⟨hno, rfl, rfl⟩
      · exact ⟨c.brs, rfl, ((HP.out.brs c hc).below hb3).rd, fun b hb => ⟨(TRd.below (HP.out.con c hc b hb) hb3).rd, (HL.out c hc).2 b hb⟩, (HL.out c hc).1, fun r hr => Or.inr ⟨HA.out, Or.inl ⟨c, hc, hcx, hr⟩⟩⟩
      · exact ⟨[], rfl, Rd.nil _ _ _, by simp, by omega, fun r hr => Or.inr ⟨HA.out, Or.inr ⟨hno, hr⟩⟩⟩
    obtain ⟨hm, hRb, hCb, hml, hD⟩ := hbrs
    have HM := Lib.hid hm
    have HRb := Lib.hid hRb
    have HCb := Lib.hid hCb
    have HD := Lib.hid hD
    clear hm hRb hCb hD hres hb3
    go_wp2_with fail
    go_loopw [17] (fun iv wr => ∃ i : Nat, iv = .int .i64 i ∧ i ≤ m ∧ Hid (∀ c ∈ brs.take i, allH x c = false) ∧ Hid (Below w3.heap.size w3 wr)) (fun iv _ => m - (intOf iv).toNat)
    case atStart => exact ⟨0, rfl, Nat.zero_le _, Lib.hid (by simp), Below.refl _ _⟩
    case round =>
      obtain ⟨i, rfl, hi, HF, HB⟩ := hrel
      by_cases hlt : i < m
      · obtain ⟨b, hb⟩ : ∃ b, brs[i]? = some b := ⟨_, List.getElem?_eq_getElem (by have := HM.out; omega)⟩
        obtain ⟨rb, ro, hA, hrl, hcell⟩ := (HRb.out.below HB.out).one (f := BrV.cells) (fun _ => rfl) (by omega) (by omega)
        subst hA
        obtain ⟨c0, c1⟩ := br_cells2 hcell hb
        obtain ⟨hcr, hcn, hcok⟩ := HCb.out b (List.mem_of_getElem? hb)
        have HCr := Lib.hid (hcr.below HB.out)
        have HCo := Lib.hid hcok
        have HBb := Lib.hid hb
        have hbx : Bk (wr.alloc (.cells #[.slice b.A b.m.conds.length b.cap, .int .u32 b.m.act] 63)) wr.heap.size 63 [.slice b.A b.m.conds.length b.cap, .int .u32 b.m.act] := Bk.new _ _ _ rfl
        have hb6 := oneb wr (.cells #[.slice b.A b.m.conds.length b.cap, .int .u32 b.m.act] 63)
        have HCr6 := Lib.hid (HCr.out.below hb6)
        have HB6 := Lib.hid (HB.out.trans (hb6.mono HB.out.size))
        clear hcell hcr hcok hb HCr
        go_upto_region 6 with fail
        generalize wr.alloc _ = w6 at hbx HCr6 HB6 ⊢
        generalize wr.heap.size = xb at hbx ⊢
        have k0 := hbx.cell 0 rfl
        have kl := hbx.lt
        have HBx := Lib.hid hbx
        obtain ⟨nc, hnc⟩ : ∃ nc, nc = b.m.conds.length := ⟨_, rfl⟩
        rw [← hnc] at k0 hcn
        have HNC := Lib.hid hnc
        clear hbx hb6 c0 c1 hrl hnc HB
        go_wp2_with fail
        go_loopw [24] (fun jv wq => ∃ j : Nat, jv = .int .i64 j ∧ j ≤ nc ∧ Hid (∀ q ∈ b.m.conds.take j, holdB q x = true) ∧ Hid (Below w6.heap.size w6 wq)) (fun jv _ => nc - (intOf jv).toNat)
        case atStart => exact ⟨0, rfl, Nat.zero_le _, Lib.hid (by simp), Below.refl _ _⟩
        case round =>
          rename World => wq
          clear k0
          obtain ⟨j, rfl, hj, HG, HQ⟩ := hrel
          have HBq := Lib.hid (HB3.out.trans ((HB6.out.mono HB3.out.size).trans (HQ.out.mono (Nat.le_trans HB3.out.size HB6.out.size))))
          have HBw := Lib.hid (HB6.out.trans (HQ.out.mono HB6.out.size))
          have k1 := (HBx.out.kept HQ.out).cell 1 rfl
          have kl := (HBx.out.kept HQ.out).lt
          have hy := HK2.out.kept HBq.out
          have y0 := hy.cell 0 rfl
          have y1 := hy.cell 1 rfl
          have y2 := hy.cell 2 rfl
          have y3 := hy.cell 3 rfl
          have y4 := hy.cell 4 rfl
          have y5 := hy.cell 5 rfl
          have y6 := hy.cell 6 rfl
          have y7 := hy.cell 7 rfl
          have y8 := hy.cell 8 rfl
          have yl := hy.lt
          clear hy
          by_cases hlq : j < nc
          · obtain ⟨q, hq⟩ : ∃ q, b.m.conds[j]? = some q := ⟨_, List.getElem?_eq_getElem (by have := HNC.out; omega)⟩
            obtain ⟨qb, qo, hqA, hql, hqc⟩ := (HCr6.out.below HQ.out).one (fun _ => rfl) (by omega) (by have := HNC.out; omega)
            rw [hqA]
            obtain ⟨d0, d1, d2, d3⟩ := cond_cells hqc hq
            have hqk := HCo.out q (List.mem_of_getElem? hq)
            have hck := Lib.hid (fun W => holds_any q.arg q.op q.mask q.val x W hqk.2.2.1 hqk.2.2.2.1 HX.out)
            have HXc := Lib.hid hq
            clear hqc hq hqk
            go_wp2_with fail
            refine (hck.out _).mono ?_
            clear hck d0 d1 d2 d3 k1 kl y0 y1 y2 y3 y4 y5 y6 y7 y8 yl
            rintro e w8 ⟨rfl, hb8⟩
            have HQ8 := Lib.hid ((HQ.out.alloc HQ.out.size (.cells #[.int .i64 q.arg, .int .u8 q.op, .int .u64 q.mask, .int .u64 q.val] 66)).trans (hb8.mono (by have := HQ.out.size; simp; omega)))
            clear hb8
            have hce : (⟨q.arg, q.op, q.mask, q.val⟩ : CondM) = q := rfl
            rw [hce]
            clear hce
            cases hz : holdB q x with
            | true =>
              have HG2 := Lib.hid (all_on HG.out HXc.out hz)
              clear hz
              go_wp2_with fail
              go_roundw
              case rel => exact ⟨j + 1, by go_num, by omega, HG2, HQ8⟩
              case measure => simp [intOf]; omega
            | false =>
              have HF2 := Lib.hid (find_on HF.out HBb.out (show allH x b = false from all_bad HXc.out hz))
              clear hz
              go_wp2_with fail
              go_roundw
              case rel => exact ⟨i + 1, by go_num, by omega, HF2, Lib.hid (HB6.out.trans (HQ8.out.mono HB6.out.size))⟩
              case measure => simp [intOf]; omega
          · have HV := Lib.hid (HD.out b.m.act (brF_hit HF.out HBb.out (show allH x b = true from all_end (by have := HNC.out; omega) HG.out)).symm)
            clear y0 y1 y2 y3 y4 y5 y6 y7 y8 yl
            go_wp2_with fail
            go_ret
            exact ⟨b.m.act, rfl, HB0.out.trans (HBq.out.mono HB0.out.size), HV.out⟩
      · have HV := Lib.hid (HD.out d (brF_end HF.out (by have := HM.out; omega)).symm)
        have q1 := ((HK1.out.kept HB3.out).kept HB.out).cell 1 rfl
        have hl1 := ((HK1.out.kept HB3.out).kept HB.out).lt
        go_wp2_with fail
        go_ret
        exact ⟨d, rfl, (HB0.out.trans (HB3.out.mono HB0.out.size)).trans (HB.out.mono (Nat.le_trans HB0.out.size HB3.out.size)), HV.out⟩
  · have e1 : ((x.arch : Int) != 3221225534) = true := by rw [bne_iff_ne]; omega
    have HA := Lib.hid ha
    clear ha
    go_wp2_with fail
    go_ret
    exact ⟨_, rfl, HB0.out, Or.inl ⟨HA.out, rfl⟩⟩
end Go.Proofs.Ytgdoampokcpagaa.Ir

