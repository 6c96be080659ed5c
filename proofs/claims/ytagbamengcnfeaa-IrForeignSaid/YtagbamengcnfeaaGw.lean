/- A policy as the document's answer has it: the walk. -/
import Derived.Test.YtagbamengcnfeaaGt
import Derived.Test.YtagbamengcnfeaaGq
import Derived.Deep.RegionWith
namespace Go.Proofs.Ytagbamengcnfeaa
open Go.RowKit Go.WideElems
theorem un_drewP {w w' : World} (h : Below w.drew.heap.size w.drew w') : Below w.heap.size w w' := (below_drewN (Below.refl w.heap.size w) 1).trans h
/-- One condition behind a rule's row: what the append answers, what the store behind it leaves. -/
theorem XB.run {K : Kd} {ws wx : World} {xb : Nat} {a0 a1 cv : Value} {l : List CondM} (h : XB K ws wx xb a0 a1 cv l) (c : CondM) {t ty : TypeId} {zero : Value} {bytes : Nat}
    (hinfo : (Try.prog.info? K.tC).map (fun i => (i.zero, i.size, i.bytes)) = some (some zero, 4, bytes)) (hzs : zero.cells.size = 4) (ht : Try.prog.underlying t = some (.slice K.tC)) (hby : bytes ≤ 64) (_ : 0 < 4) (hl : l.length ≤ 1000) (news : Array Value) (hn : news.toList = K.fC c) (h1 : ∀ u ∈ K.fC c, u.oneCell' = true) :
    ∃ v' wb, (Builtin.append_ #[t, t] ty #[cv, .slice (some ⟨wx.heap.size, 0, none⟩) 1 1]).run Try.prog (wx.alloc (.cells news K.tC)) = .ok v' wb ∧
      Bk wb xb K.tR [a0, a1, cv] ∧ XB K ws (wb.setCell ⟨xb, 2, none⟩ v') xb a0 a1 v' (l ++ [c]) := by
  obtain ⟨i0, hi, hz0, hz1, hz2⟩ := info_parts hinfo
  have hk := h.kept (one_alloc wx (.cells news K.tC))
  have hB : Bk (wx.alloc (.cells news K.tC)) wx.heap.size K.tC (K.fC c) := Bk.new wx K.tC news (by rw [← hn])
  obtain ⟨v', wb, hr, ho, hg, _, _⟩ := run_append_own_at (P := Try.prog) (wx.alloc (.cells news K.tC)) ws.heap.size t ty K.tC i0 zero 4 bytes ht hi hz0 hz1 hz2 hzs (by decide) cv l.length (l.flatMap K.fC) hk.own ⟨wx.heap.size, 0, none⟩ 1 1 (K.fC c) (by rw [K.hC]) (fun j u hu => by rw [addr_at, Nat.zero_add]; exact hB.cell j hu) h1 (by unfold maxLen; omega) (by have : (l.length + 1) * bytes ≤ 1001 * 64 := Nat.mul_le_mul (by omega) hby; omega) (Nat.le_trans h.grow.size (by simp))
  obtain ⟨_, _, _, _, _, hty, _⟩ := own_typed hk.own
  exact ⟨v', wb, hr, hk.x.appended hg hty K.n1.symm, hk.add c ho hg⟩
theorem op_append {o : Oper} {a : Act} {w : World} {K : Act → World → Prop} {Q : Exit → Act → World → Prop} (s x : Operand) (t : TypeId) (ho : o.op = .call { callee := .builtin .append, args := #[s, x], argTypes := #[t, t] })
    (v y v' : Value) (w' : World) (hs : a.eval s = v) (hx : a.eval x = y) (hr : (Builtin.append_ #[t, t] o.type #[v, y]).run Try.prog w = .ok v' w') (h : K (a.put o.dst v') w') : Oper.wp Try.prog o a w K Q := by
  unfold Oper.wp execOp
  simp only [ho, resolve, invoke, builtin, Sem.run_bind, Sem.run_pure, Result.andThen_ok, List.map_toArray, List.map_cons, List.map_nil, hs, hx, hr]
  exact h
theorem oc {l : List Value} (h : ∀ v ∈ l, v.oneCell' = true) : ∀ u ∈ l, u.oneCell' = true := h
theorem grown_none {w w' : World} (hb : Below w.heap.size w w') : w.grownBy w' none := ⟨hb.os, hb.tape, hb.output, hb.size, fun i hi _ => hb.block i hi⟩
def RefPost (nm : Bs) (dflt : Nat) (rules : List RuleV) (nR hd : Nat) (paths : List (Bs × Nat)) (nP : Nat) (ports : List (Nat × Nat)) (nQ : Nat) (w : World) (e : Ending) (w' : World) : Prop :=
  (∃ (rs : List RuleV) (RA : Option Addr) (Rc : Nat) (PA : Option Addr) (Pc : Nat) (QA : Option Addr) (Qc : Nat), rs.map RuleV.m = rules.map RuleV.m ∧
    e = .returned (.agg #[.string ⟨nm.toArray⟩, .int .u32 dflt, .slice RA nR Rc, .int .i64 hd, .slice PA nP Pc, .slice QA nQ Qc]) ∧
    RReads w' ⟨nm, dflt, rs, RA, Rc, hd, paths, PA, Pc, ports, QA, Qc⟩) ∧ Below w.heap.size w w'
/-- As the document's answer has it in memory, and in blocks of which types. -/
structure TRR (w : World) (p : PolV) : Prop where
  r : TRd w kR.tR 3 p.rules.length p.RA (p.rules.flatMap RuleV.cells)
  c : ∀ x ∈ p.rules, TRd w kR.tC 4 x.m.conds.length x.A (x.m.conds.flatMap CondM.rcells)
  pt : TRd w kR.tB 2 p.paths.length p.PA (p.paths.flatMap pathR)
  po : TRd w kR.tQ 2 p.ports.length p.QA (p.ports.flatMap portR)
theorem TRR.reads {w : World} {p : PolV} (h : TRR w p) : RReads w p := ⟨h.r.rd, fun x hx => (h.c x hx).rd, h.pt.rd, h.po.rd⟩
def RefPostT (nm : Bs) (dflt : Nat) (rules : List RuleV) (nR hd : Nat) (paths : List (Bs × Nat)) (nP : Nat) (ports : List (Nat × Nat)) (nQ : Nat) (w : World) (e : Ending) (w' : World) : Prop :=
  (∃ (rs : List RuleV) (RA : Option Addr) (Rc : Nat) (PA : Option Addr) (Pc : Nat) (QA : Option Addr) (Qc : Nat), rs.map RuleV.m = rules.map RuleV.m ∧
    e = .returned (.agg #[.string ⟨nm.toArray⟩, .int .u32 dflt, .slice RA nR Rc, .int .i64 hd, .slice PA nP Pc, .slice QA nQ Qc]) ∧
    TRR w' ⟨nm, dflt, rs, RA, Rc, hd, paths, PA, Pc, ports, QA, Qc⟩) ∧ Below w.heap.size w w'
set_option maxHeartbeats 16000000 in
set_option maxRecDepth 100000 in
theorem refT_any (nm : Bs) (dflt : Nat) (rules : List RuleV) (RA : Option Addr) (nR Rc hd : Nat) (paths : List (Bs × Nat)) (PA : Option Addr) (nP Pc : Nat) (ports : List (Nat × Nat)) (QA : Option Addr) (nQ Qc : Nat) (w : World)
    (hnR : rules.length = nR) (hnP : paths.length = nP) (hnQ : ports.length = nQ) (hlR : nR ≤ 80) (hlP : nP ≤ 50) (hlQ : nQ ≤ 50)
    (hru : ∀ r ∈ rules, r.m.conds.length ≤ 20 ∧ ∀ c ∈ r.m.conds, c.ok) (hhd : hd < 65536) (hpa : ∀ x ∈ paths, x.2 < 65536) (hpo : ∀ x ∈ ports, x.1 < 65536 ∧ x.2 < 65536)
    (hR : Reads w ⟨nm, dflt, rules, RA, Rc, hd, paths, PA, Pc, ports, QA, Qc⟩) :
    Calls Try.prog 11 #[.agg #[.string ⟨nm.toArray⟩, .int .u32 dflt, .slice RA nR Rc, .int .u16 hd, .slice PA nP Pc, .slice QA nQ Qc]] w (RefPostT nm dflt rules nR hd paths nP ports nQ w) := by
  have hbk := Bk.new w 43 #[.string ⟨nm.toArray⟩, .int .u32 dflt, .slice RA nR Rc, .int .u16 hd, .slice PA nP Pc, .slice QA nQ Qc] (l := [.string ⟨nm.toArray⟩, .int .u32 dflt, .slice RA nR Rc, .int .u16 hd, .slice PA nP Pc, .slice QA nQ Qc]) rfl
  have hb0 := one_alloc w (.cells #[.string ⟨nm.toArray⟩, .int .u32 dflt, .slice RA nR Rc, .int .u16 hd, .slice PA nP Pc, .slice QA nQ Qc] 43)
  have HR := Lib.hid hR
  have Hru := Lib.hid hru
  have Hpa := Lib.hid hpa
  have Hpo := Lib.hid hpo
  have HnR := Lib.hid hnR
  have HnP := Lib.hid hnP
  have HnQ := Lib.hid hnQ
  have hhd2 : IntKind.i64.wrap (hd : Int) = (hd : Int) := IntWalk.i64_in _ (by omega)
  clear hR hru hpa hpo hnR hnP hnQ
  go_enter Try.func11, Try.ntmps11
  go_wp2_with fail
  have hw1 : (w.alloc (.cells #[.string ⟨nm.toArray⟩, .int .u32 dflt, .slice RA nR Rc, .int .u16 hd, .slice PA nP Pc, .slice QA nQ Qc] 43)).heap.size = w.heap.size + 1 := by simp
  generalize w.alloc _ = wb at hbk hb0 hw1 ⊢
  have hz1 := (Bk.new wb 49 #[.string ⟨#[]⟩, .int .u32 0, .slice none 0 0, .int .i64 0, .slice none 0 0, .slice none 0 0] (l := [.string ⟨#[]⟩, .int .u32 0, .slice none 0 0, .int .i64 0, .slice none 0 0, .slice none 0 0]) rfl)
  have hb1 := one_alloc wb (.cells #[.string ⟨#[]⟩, .int .u32 0, .slice none 0 0, .int .i64 0, .slice none 0 0, .slice none 0 0] 49)
  have hw2 : (wb.alloc (.cells #[.string ⟨#[]⟩, .int .u32 0, .slice none 0 0, .int .i64 0, .slice none 0 0, .slice none 0 0] 49)).heap.size = w.heap.size + 1 + 1 := by simp [hw1]
  generalize wb.alloc _ = wc at hz1 hb1 hw2 ⊢
  have hz2 := (Bk.new wc 49 #[.string ⟨nm.toArray⟩, .int .u32 dflt, .slice none 0 0, .int .i64 hd, .slice none 0 0, .slice none 0 0] (l := [.string ⟨nm.toArray⟩, .int .u32 dflt, .slice none 0 0, .int .i64 hd, .slice none 0 0, .slice none 0 0]) rfl)
  have hb2 := one_alloc wc (.cells #[.string ⟨nm.toArray⟩, .int .u32 dflt, .slice none 0 0, .int .i64 hd, .slice none 0 0, .slice none 0 0] 49)
  have hz1' := hz1.kept hb2
  have hw3 : (wc.alloc (.cells #[.string ⟨nm.toArray⟩, .int .u32 dflt, .slice none 0 0, .int .i64 hd, .slice none 0 0, .slice none 0 0] 49)).heap.size = w.heap.size + 1 + 1 + 1 := by simp [hw2]
  generalize wc.alloc _ = w0 at hz2 hb2 hz1' hw3 ⊢
  rw [hw1] at hz1'
  rw [hw2] at hz2
  have hrb : RB kR wb w0 (w.heap.size + 1 + 1 + 1) (w.heap.size + 1) (w.heap.size + 1 + 1) [.string ⟨#[]⟩, .int .u32 0, .slice none 0 0, .int .i64 0, .slice none 0 0, .slice none 0 0] (.string ⟨nm.toArray⟩) (.int .u32 dflt) (.slice none 0 0) (.int .i64 hd) (.slice none 0 0) (.slice none 0 0) [] [] [] :=
    ⟨hz2, hz1', World.ownsRow_nil _ _ _ _, fun x hx => (by simp at hx), World.ownsRow_nil _ _ _ _, World.ownsRow_nil _ _ _ _, hb1.trans (hb2.mono hb1.size), ⟨by omega, by omega⟩, by omega, ⟨by omega, by omega⟩⟩
  have HRB := Lib.hid hrb
  have HBX := Lib.hid hbk
  have HRb := Lib.hid (HR.out.below hb0)
  have HB0 := Lib.hid hb0
  have hlb := hbk.lt
  clear hz1 hz2 hz1' hb1 hb2 hw2 hw3 hrb hbk hb0 HR
  go_loopw [24] (fun iv wr => ∃ (k : Nat) (rs : List RuleV) (v2 : Value), iv = .int .i64 k ∧ k ≤ nR ∧ rs.length = k ∧ Hid (rs.map RuleV.m = (rules.take k).map RuleV.m) ∧ Hid (RB kR wb wr (w.heap.size + 1 + 1 + 1) (w.heap.size + 1) (w.heap.size + 1 + 1) [.string ⟨#[]⟩, .int .u32 0, .slice none 0 0, .int .i64 0, .slice none 0 0, .slice none 0 0] (.string ⟨nm.toArray⟩) (.int .u32 dflt) v2 (.int .i64 hd) (.slice none 0 0) (.slice none 0 0) rs [] [])) (fun iv _ => nR - (intOf iv).toNat)
  case atStart => exact ⟨0, [], _, rfl, Nat.zero_le _, rfl, Lib.hid (by simp), HRB⟩
  case round =>
    obtain ⟨k, rs, v2, rfl, hk, hrl, HM, HW⟩ := hrel
    have hlw : w.heap.size < wr.heap.size := Nat.lt_of_lt_of_le (by omega) HW.out.bel.size
    have hlw2 : w.heap.size + 1 + 1 < wr.heap.size := HW.out.out.lt
    by_cases hlt : k < nR
    · obtain ⟨r, hr⟩ : ∃ r, rules[k]? = some r := ⟨_, List.getElem?_eq_getElem (by have := HnR.out; omega)⟩
      have HRr := Lib.hid (HRb.out.below HW.out.bel)
      have hmem := List.mem_of_getElem? hr
      have hrd := HRr.out.rules
      simp only [HnR.out] at hrd
      obtain ⟨bb, o, hAe, hbl, hcell⟩ := hrd.one (fun _ => rfl) (by omega) (by omega)
      subst hAe
      obtain ⟨c0, c1, c2⟩ := rule_cells hcell hr
      obtain ⟨hl20, hcok⟩ := Hru.out r hmem
      have HCok := Lib.hid hcok
      have HRc := Lib.hid (HRr.out.conds r hmem)
      have HX := Lib.hid hr
      obtain ⟨⟨num, act, cs⟩, CA, ccap⟩ := r
      simp only at c0 c1 c2 hl20 HCok HRc
      obtain ⟨nc, hnc⟩ : ∃ nc, nc = cs.length := ⟨_, rfl⟩
      rw [← hnc] at c2 HRc hl20
      have HNc := Lib.hid hnc
      clear hcell hr hmem hrd hcok hnc
      go_wp2_with fail
      have ha1 := one_alloc wr (.cells #[.int .u32 num, .int .u32 act, .slice CA nc ccap] 64)
      have hs1 : (wr.alloc (.cells #[.int .u32 num, .int .u32 act, .slice CA nc ccap] 64)).heap.size = wr.heap.size + 1 := by simp
      generalize wr.alloc _ = wv at ha1 hs1 ⊢
      have hx0 := Bk.new wv 113 #[.int .u32 num, .int .u32 act, .slice none 0 0] (l := [.int .u32 num, .int .u32 act, .slice none 0 0]) rfl
      have ha2 := ha1.trans ((one_alloc wv (.cells #[.int .u32 num, .int .u32 act, .slice none 0 0] 113)).mono ha1.size)
      have hs2 : (wv.alloc (.cells #[.int .u32 num, .int .u32 act, .slice none 0 0] 113)).heap.size = wr.heap.size + 1 + 1 := by simp [hs1]
      rw [hs1] at hx0
      generalize wv.alloc _ = ws at ha2 hx0 hs2 ⊢
      have HA2 := Lib.hid ha2
      have HXB : Hid (XB kR ws ws (wr.heap.size + 1) (.int .u32 num) (.int .u32 act) (.slice none 0 0) []) := Lib.hid ⟨hx0, World.ownsRow_nil _ _ _ _, only_refl _ _, by omega⟩
      clear ha1 hs1 ha2 hx0 c0 c1 c2
      go_loopw [36] (fun iv wx => ∃ (j : Nat) (cv : Value), iv = .int .i64 j ∧ j ≤ nc ∧ Hid (XB kR ws wx (wr.heap.size + 1) (.int .u32 num) (.int .u32 act) cv (cs.take j))) (fun iv _ => nc - (intOf iv).toNat)
      case atStart => exact ⟨0, _, rfl, Nat.zero_le _, HXB⟩
      case round =>
        rename World => wx
        obtain ⟨j, cv, rfl, hj, HXx⟩ := hrel
        have hlx : ws.heap.size ≤ wx.heap.size := HXx.out.grow.size
        have hxl := HXx.out.x.lt
        have HBx := Lib.hid (HXx.out.bel HA2.out (by omega))
        by_cases hjl : j < nc
        · obtain ⟨c, hc⟩ : ∃ c, cs[j]? = some c := ⟨_, List.getElem?_eq_getElem (by have := HNc.out; omega)⟩
          obtain ⟨bc, oc', hAc, hbc, hcell⟩ := (HRc.out.below HBx.out).one (fun _ => rfl) (by omega) (by omega)
          subst hAc
          obtain ⟨c0, c1, c2, c3⟩ := cond_cells hcell hc
          have hcok := HCok.out c (List.mem_of_getElem? hc)
          have HXc := Lib.hid hc
          have hck := Lib.hid (fun W => refCond_any c.arg c.op c.mask c.val W hcok.2.2.1)
          have hlen : (cs.take j).length = j := by rw [List.length_take]; have := HNc.out; omega
          clear hcell hc hcok
          go_upto_region 9 with fail
          have HXa0 := Lib.hid (HXx.out.kept (one_alloc wx (.cells #[.int .i64 c.arg, .int .u8 c.op, .int .u64 c.mask, .int .u64 c.val] 67)))
          have hxa := HXa0.out.x
          have x2 := hxa.cell 2 rfl
          have xlt := hxa.lt
          clear hxa
          refine wp_region_any (by kernel_rfl) ?_
          change wpAny _ _ _ _ _ _ _ (World.drew _)
          refine wpAny_take (i := 0) (v := ?_) rfl (by kernel_rfl) (by kernel_rfl) (by kernel_rfl) (fun _ _ _ h => h) (Or.inl ⟨by rfl, ?_⟩) ?_
          rotate_left 1
          · intro w
            (go_simp) <;> (with_reducible rfl)
          refine wpAny_ready (rs := [1, 2]) (by kernel_rfl) (by simp) ?_
          refine AllReady.cons rfl (fun K hK => ?_) ?_
          · skip
            go_simp
            refine hK _ _ ?_
            clear hK K
            refine wpAny_ready (rs := [2]) (by kernel_rfl) (by simp) ?_
            refine AllReady.cons rfl (fun K hK => ?_) ?_
            · skip
              go_simp
              refine hK _ _ ?_
              clear hK K
              refine wpAny_ready (rs := [3]) (by kernel_rfl) (by simp) ?_
              refine AllReady.cons rfl (fun K hK => ?_) ?_
              · skip
                go_simp
                refine (hck.out _).mono ?_
                rintro e wa ⟨rfl, hba0⟩
                refine hK _ _ ?_
                clear hK K
                have HXa := Lib.hid (HXa0.out.kept (un_drewP hba0))
                have y2 := HXa.out.x.cell 2 rfl
                have ylt := HXa.out.x.lt
                clear hba0
                refine wpAny_ready (rs := [4]) (by kernel_rfl) (by simp) ?_
                refine AllReady.cons rfl (fun K hK => ?_) ?_
                · skip
                  go_simp
                  refine hK _ _ ?_
                  clear hK K
                  refine wpAny_ready (rs := [5]) (by kernel_rfl) (by simp) ?_
                  refine AllReady.cons rfl (fun K hK => ?_) ?_
                  · skip
                    rw [if_pos (by rfl)]
                    obtain ⟨v', wb, hr, HAd⟩ := XB.run (t := 111) (ty := 111) HXa.out c infoRC rfl Try.underlying111 (by decide) (by decide) (by rw [hlen]; omega) #[.int .i64 c.arg, .int .i64 c.op, .int .u64 c.mask, .int .u64 c.val] rfl (by intro u hu; simp [kR, CondM.rcells] at hu; rcases hu with rfl | rfl | rfl | rfl <;> rfl)
                    obtain ⟨Av, cv9, hve, _⟩ := own_typed HAd.2.own
                    obtain ⟨nl, hnl⟩ : ∃ nl, nl = (cs.take j ++ [c]).length := ⟨_, rfl⟩
                    rw [← hnl] at hve
                    clear hnl
                    subst hve
                    refine op_append (.tmp 41) (.tmp 44) 111 rfl _ _ _ wb rfl rfl hr ?_
                    refine hK _ _ ?_
                    clear hK K
                    have z2 := HAd.1.cell 2 rfl
                    have zf := HAd.1.fz 2
                    have zlt := HAd.1.lt
                    have HAD := Lib.hid HAd.2
                    clear HAd hr y2 ylt HXa
                    refine wpAny_take (i := 6) (v := ?_) rfl (by kernel_rfl) (by kernel_rfl) (by kernel_rfl) (fun _ _ _ h => h) (Or.inl ⟨by rfl, ?_⟩) ?_
                    rotate_left 1
                    · intro w
                      (go_simp) <;> (with_reducible rfl)
                    refine wpAny_ready (rs := [7]) (by kernel_rfl) (by simp) ?_
                    refine AllReady.cons rfl (fun K hK => ?_) ?_
                    · skip
                      go_simp
                      refine hK _ _ ?_
                      clear hK K
                      refine wpAny_done (by kernel_rfl) ?_ _
                      go_wp2_with fail
                      go_roundw
                      case rel => exact ⟨j + 1, _, by go_num, by omega, Lib.hid (by rw [List.take_add_one, HXc.out]; exact HAD.out)⟩
                      case measure => simp [intOf]; omega
                    exact AllReady.nil
                  exact AllReady.nil
                exact AllReady.nil
              exact AllReady.nil
            exact AllReady.nil
          refine AllReady.cons rfl (fun K hK => ?_) ?_
          · skip
            go_simp
            refine hK _ _ ?_
            clear hK K
            refine wpAny_ready (rs := [1, 3]) (by kernel_rfl) (by simp) ?_
            refine AllReady.cons rfl (fun K hK => ?_) ?_
            · skip
              go_simp
              refine hK _ _ ?_
              clear hK K
              refine wpAny_ready (rs := [3]) (by kernel_rfl) (by simp) ?_
              refine AllReady.cons rfl (fun K hK => ?_) ?_
              · skip
                go_simp
                refine (hck.out _).mono ?_
                rintro e wa ⟨rfl, hba0⟩
                refine hK _ _ ?_
                clear hK K
                have HXa := Lib.hid (HXa0.out.kept (un_drewP hba0))
                have y2 := HXa.out.x.cell 2 rfl
                have ylt := HXa.out.x.lt
                clear hba0
                refine wpAny_ready (rs := [4]) (by kernel_rfl) (by simp) ?_
                refine AllReady.cons rfl (fun K hK => ?_) ?_
                · skip
                  go_simp
                  refine hK _ _ ?_
                  clear hK K
                  refine wpAny_ready (rs := [5]) (by kernel_rfl) (by simp) ?_
                  refine AllReady.cons rfl (fun K hK => ?_) ?_
                  · skip
                    rw [if_pos (by rfl)]
                    obtain ⟨v', wb, hr, HAd⟩ := XB.run (t := 111) (ty := 111) HXa.out c infoRC rfl Try.underlying111 (by decide) (by decide) (by rw [hlen]; omega) #[.int .i64 c.arg, .int .i64 c.op, .int .u64 c.mask, .int .u64 c.val] rfl (by intro u hu; simp [kR, CondM.rcells] at hu; rcases hu with rfl | rfl | rfl | rfl <;> rfl)
                    obtain ⟨Av, cv9, hve, _⟩ := own_typed HAd.2.own
                    obtain ⟨nl, hnl⟩ : ∃ nl, nl = (cs.take j ++ [c]).length := ⟨_, rfl⟩
                    rw [← hnl] at hve
                    clear hnl
                    subst hve
                    refine op_append (.tmp 41) (.tmp 44) 111 rfl _ _ _ wb rfl rfl hr ?_
                    refine hK _ _ ?_
                    clear hK K
                    have z2 := HAd.1.cell 2 rfl
                    have zf := HAd.1.fz 2
                    have zlt := HAd.1.lt
                    have HAD := Lib.hid HAd.2
                    clear HAd hr y2 ylt HXa
                    refine wpAny_take (i := 6) (v := ?_) rfl (by kernel_rfl) (by kernel_rfl) (by kernel_rfl) (fun _ _ _ h => h) (Or.inl ⟨by rfl, ?_⟩) ?_
                    rotate_left 1
                    · intro w
                      (go_simp) <;> (with_reducible rfl)
                    refine wpAny_ready (rs := [7]) (by kernel_rfl) (by simp) ?_
                    refine AllReady.cons rfl (fun K hK => ?_) ?_
                    · skip
                      go_simp
                      refine hK _ _ ?_
                      clear hK K
                      refine wpAny_done (by kernel_rfl) ?_ _
                      go_wp2_with fail
                      go_roundw
                      case rel => exact ⟨j + 1, _, by go_num, by omega, Lib.hid (by rw [List.take_add_one, HXc.out]; exact HAD.out)⟩
                      case measure => simp [intOf]; omega
                    exact AllReady.nil
                  exact AllReady.nil
                exact AllReady.nil
              exact AllReady.nil
            refine AllReady.cons rfl (fun K hK => ?_) ?_
            · skip
              go_simp
              refine (hck.out _).mono ?_
              rintro e wa ⟨rfl, hba0⟩
              refine hK _ _ ?_
              clear hK K
              have HXa := Lib.hid (HXa0.out.kept (un_drewP hba0))
              have y2 := HXa.out.x.cell 2 rfl
              have ylt := HXa.out.x.lt
              clear hba0
              refine wpAny_ready (rs := [1, 4]) (by kernel_rfl) (by simp) ?_
              refine AllReady.cons rfl (fun K hK => ?_) ?_
              · skip
                go_simp
                refine hK _ _ ?_
                clear hK K
                refine wpAny_ready (rs := [4]) (by kernel_rfl) (by simp) ?_
                refine AllReady.cons rfl (fun K hK => ?_) ?_
                · skip
                  go_simp
                  refine hK _ _ ?_
                  clear hK K
                  refine wpAny_ready (rs := [5]) (by kernel_rfl) (by simp) ?_
                  refine AllReady.cons rfl (fun K hK => ?_) ?_
                  · skip
                    rw [if_pos (by rfl)]
                    obtain ⟨v', wb, hr, HAd⟩ := XB.run (t := 111) (ty := 111) HXa.out c infoRC rfl Try.underlying111 (by decide) (by decide) (by rw [hlen]; omega) #[.int .i64 c.arg, .int .i64 c.op, .int .u64 c.mask, .int .u64 c.val] rfl (by intro u hu; simp [kR, CondM.rcells] at hu; rcases hu with rfl | rfl | rfl | rfl <;> rfl)
                    obtain ⟨Av, cv9, hve, _⟩ := own_typed HAd.2.own
                    obtain ⟨nl, hnl⟩ : ∃ nl, nl = (cs.take j ++ [c]).length := ⟨_, rfl⟩
                    rw [← hnl] at hve
                    clear hnl
                    subst hve
                    refine op_append (.tmp 41) (.tmp 44) 111 rfl _ _ _ wb rfl rfl hr ?_
                    refine hK _ _ ?_
                    clear hK K
                    have z2 := HAd.1.cell 2 rfl
                    have zf := HAd.1.fz 2
                    have zlt := HAd.1.lt
                    have HAD := Lib.hid HAd.2
                    clear HAd hr y2 ylt HXa
                    refine wpAny_take (i := 6) (v := ?_) rfl (by kernel_rfl) (by kernel_rfl) (by kernel_rfl) (fun _ _ _ h => h) (Or.inl ⟨by rfl, ?_⟩) ?_
                    rotate_left 1
                    · intro w
                      (go_simp) <;> (with_reducible rfl)
                    refine wpAny_ready (rs := [7]) (by kernel_rfl) (by simp) ?_
                    refine AllReady.cons rfl (fun K hK => ?_) ?_
                    · skip
                      go_simp
                      refine hK _ _ ?_
                      clear hK K
                      refine wpAny_done (by kernel_rfl) ?_ _
                      go_wp2_with fail
                      go_roundw
                      case rel => exact ⟨j + 1, _, by go_num, by omega, Lib.hid (by rw [List.take_add_one, HXc.out]; exact HAD.out)⟩
                      case measure => simp [intOf]; omega
                    exact AllReady.nil
                  exact AllReady.nil
                exact AllReady.nil
              refine AllReady.cons rfl (fun K hK => ?_) ?_
              · skip
                go_simp
                refine hK _ _ ?_
                clear hK K
                refine wpAny_ready (rs := [1]) (by kernel_rfl) (by simp) ?_
                refine AllReady.cons rfl (fun K hK => ?_) ?_
                · skip
                  go_simp
                  refine hK _ _ ?_
                  clear hK K
                  refine wpAny_ready (rs := [5]) (by kernel_rfl) (by simp) ?_
                  refine AllReady.cons rfl (fun K hK => ?_) ?_
                  · skip
                    rw [if_pos (by rfl)]
                    obtain ⟨v', wb, hr, HAd⟩ := XB.run (t := 111) (ty := 111) HXa.out c infoRC rfl Try.underlying111 (by decide) (by decide) (by rw [hlen]; omega) #[.int .i64 c.arg, .int .i64 c.op, .int .u64 c.mask, .int .u64 c.val] rfl (by intro u hu; simp [kR, CondM.rcells] at hu; rcases hu with rfl | rfl | rfl | rfl <;> rfl)
                    obtain ⟨Av, cv9, hve, _⟩ := own_typed HAd.2.own
                    obtain ⟨nl, hnl⟩ : ∃ nl, nl = (cs.take j ++ [c]).length := ⟨_, rfl⟩
                    rw [← hnl] at hve
                    clear hnl
                    subst hve
                    refine op_append (.tmp 41) (.tmp 44) 111 rfl _ _ _ wb rfl rfl hr ?_
                    refine hK _ _ ?_
                    clear hK K
                    have z2 := HAd.1.cell 2 rfl
                    have zf := HAd.1.fz 2
                    have zlt := HAd.1.lt
                    have HAD := Lib.hid HAd.2
                    clear HAd hr y2 ylt HXa
                    refine wpAny_take (i := 6) (v := ?_) rfl (by kernel_rfl) (by kernel_rfl) (by kernel_rfl) (fun _ _ _ h => h) (Or.inl ⟨by rfl, ?_⟩) ?_
                    rotate_left 1
                    · intro w
                      (go_simp) <;> (with_reducible rfl)
                    refine wpAny_ready (rs := [7]) (by kernel_rfl) (by simp) ?_
                    refine AllReady.cons rfl (fun K hK => ?_) ?_
                    · skip
                      go_simp
                      refine hK _ _ ?_
                      clear hK K
                      refine wpAny_done (by kernel_rfl) ?_ _
                      go_wp2_with fail
                      go_roundw
                      case rel => exact ⟨j + 1, _, by go_num, by omega, Lib.hid (by rw [List.take_add_one, HXc.out]; exact HAD.out)⟩
                      case measure => simp [intOf]; omega
                    exact AllReady.nil
                  exact AllReady.nil
                exact AllReady.nil
              exact AllReady.nil
            exact AllReady.nil
          exact AllReady.nil
        · obtain rfl : j = nc := by omega
          have hx := HXx.out
          rw [List.take_of_length_le (by have := HNc.out; omega)] at hx
          obtain ⟨A9, c9, hve, _, hTR, _, _⟩ := own_typed hx.own
          have hTR' : TRd wx kR.tC 4 cs.length A9 (cs.flatMap kR.fC) := hTR
          rw [← HNc.out] at hve
          subst hve
          have HWx := Lib.hid (HW.out.kept HBx.out)
          have x0 := hx.x.cell 0 rfl
          have x1 := hx.x.cell 1 rfl
          have x2 := hx.x.cell 2 rfl
          have o2 := HWx.out.out.cell 2 rfl
          have hol := HWx.out.out.lt
          have hrs : rs.length ≤ 80 := by omega
          have hbB : w.heap.size + 1 + 1 + 1 ≤ wx.heap.size := HWx.out.hB.2
          have HTR := Lib.hid hTR'
          have HN3 := Lib.hid (show RuleV.cells ⟨⟨num, act, cs⟩, A9, c9⟩ = [.int .u32 num, .int .u32 act, .slice A9 j c9] by rw [HNc.out]; rfl)
          clear hx hTR hTR'
          go_wp2_with (at_builtin; refine append_one rfl (.tmp 49) (.tmp 51) 45 113 rfl _ 3 32 infoRR Try.underlying45 rfl (by decide) (by decide) (w.heap.size + 1 + 1 + 1) _ rs.length (rs.flatMap RuleV.cells) rfl (HWx.out.r.alloc _) wx.heap.size [.int .u32 num, .int .u32 act, .slice A9 j c9] rfl rfl (Bk.new wx _ _ rfl) (by intro u hu; simp at hu; rcases hu with rfl | rfl | rfl <;> rfl) (by omega) (by simp; omega) ?_; intro v' w5 hown' hgrow hat; have hWa := HWx.out.kept (one_alloc wx (.cells #[.int .u32 num, .int .u32 act, .slice A9 j c9] 113)); obtain ⟨_, _, _, _, _, htyv, _⟩ := own_typed hWa.r; have hoa := hWa.out.appended hgrow htyv kR.n4; have z2 := hoa.cell 2 rfl; have zf := hoa.fz 2; have zl := hoa.lt; have HAd := Lib.hid (hWa.addRule ⟨⟨num, act, cs⟩, A9, c9⟩ (HTR.out.below (one_alloc wx _)) (by rw [HN3.out]; exact hown') hgrow); obtain ⟨A7, c7, hv7, _⟩ := own_typed hown'; rw [hrl] at hv7; subst hv7; clear hown' hgrow hat hWa htyv hoa)
          go_roundw
          case rel => exact ⟨k + 1, rs ++ [⟨⟨num, act, cs⟩, A9, c9⟩], _, by go_num, by omega, by simp; omega, Lib.hid (by rw [List.map_append, HM.out, List.take_add_one, HX.out, List.map_append]; rfl), HAd⟩
          case measure => simp [intOf]; omega
    · have HMf := Lib.hid (show rs.map RuleV.m = rules.map RuleV.m by have := HM.out; rwa [List.take_of_length_le (by have := HnR.out; omega)] at this)
      have hrl2 : rs.length = nR := by omega
      have b4 := (HBX.out.kept HW.out.bel).cell 4 rfl
      go_wp2_with fail
      clear HM b4
      go_loopw [58] (fun iv wy => ∃ (i : Nat) (v4 : Value), iv = .int .i64 i ∧ i ≤ nP ∧ Hid (RB kR wb wy (w.heap.size + 1 + 1 + 1) (w.heap.size + 1) (w.heap.size + 1 + 1) [.string ⟨#[]⟩, .int .u32 0, .slice none 0 0, .int .i64 0, .slice none 0 0, .slice none 0 0] (.string ⟨nm.toArray⟩) (.int .u32 dflt) v2 (.int .i64 hd) v4 (.slice none 0 0) rs (paths.take i) [])) (fun iv _ => nP - (intOf iv).toNat)
      case atStart => exact ⟨0, _, rfl, Nat.zero_le _, HW⟩
      case round =>
        rename World => wy
        obtain ⟨i, v4, rfl, hi, HWy⟩ := hrel
        have hly : w.heap.size < wy.heap.size := Nat.lt_of_lt_of_le (by omega) HWy.out.bel.size
        by_cases hil : i < nP
        · obtain ⟨x, hx⟩ : ∃ x, paths[i]? = some x := ⟨_, List.getElem?_eq_getElem (by have := HnP.out; omega)⟩
          have hxok := Hpa.out x (List.mem_of_getElem? hx)
          obtain ⟨x1, x2⟩ := x
          simp only at hxok
          have hrd := (HRb.out.below HWy.out.bel).paths
          simp only [HnP.out] at hrd
          obtain ⟨bp, op, hAp, hbp, hcell⟩ := hrd.one (fun _ => rfl) (by omega) (by omega)
          subst hAp
          obtain ⟨c0, c1⟩ := two_cells (f := pathC) hcell hx rfl
          have HX := Lib.hid hx
          have hwr2 : IntKind.i64.wrap (x2 : Int) = (x2 : Int) := IntWalk.i64_in _ (by omega)
          have o4 := HWy.out.out.cell 4 rfl
          have hol := HWy.out.out.lt
          have hlp : (paths.take i).length = i := by rw [List.length_take]; have := HnP.out; omega
          clear hcell hx hrd
          clear o4
          go_upto_region 16 with fail
          have hk2 := Bk.new wy 107 #[.string ⟨x1.toArray⟩, .int .u16 x2] (l := [.string ⟨x1.toArray⟩, .int .u16 x2]) rfl
          have hWz0 := HWy.out.kept (one_alloc wy (.cells #[.string ⟨x1.toArray⟩, .int .u16 x2] 107))
          generalize wy.alloc _ = wz at hk2 hWz0 ⊢
          have n0 := hk2.cell 0 rfl
          have n1 := hk2.cell 1 rfl
          have hkl := hk2.lt
          have o4 := hWz0.out.cell 4 rfl
          have hol4 := hWz0.out.lt
          have HWz := Lib.hid hWz0
          clear hWz0 hk2 c0 c1
          have hbB : w.heap.size + 1 + 1 + 1 ≤ wz.heap.size := HWz.out.hB.2
          go_wp2_with (at_builtin; refine append_one rfl (.tmp 63) (.tmp 70) 46 118 rfl _ 2 24 infoRB Try.underlying46 rfl (by decide) (by decide) (w.heap.size + 1 + 1 + 1) _ (paths.take i).length ((paths.take i).flatMap pathR) rfl (HWz.out.p.alloc _) wz.heap.size [.string ⟨x1.toArray⟩, .int .i64 x2] rfl rfl (Bk.new _ _ _ rfl) (by intro u hu; simp at hu; rcases hu with rfl | rfl <;> rfl) (by omega) (by simp; omega) ?_; intro v' w5 hown' hgrow hat; have hWa := HWz.out.kept (one_alloc _ (.cells #[.string ⟨x1.toArray⟩, .int .i64 x2] 118)); obtain ⟨_, _, _, _, _, htyv, _⟩ := own_typed hWa.p; have hoa := hWa.out.appended hgrow htyv kR.n8; have z2 := hoa.cell 4 rfl; have zf := hoa.fz 4; have zl := hoa.lt; have HAd := Lib.hid (hWa.addPath (x1, x2) hown' hgrow); obtain ⟨A7, c7, hv7, _⟩ := own_typed hown'; rw [hlp] at hv7; subst hv7; clear hown' hgrow hat hWa htyv hoa)
          go_roundw
          case rel => exact ⟨i + 1, _, by go_num, by omega, Lib.hid (by rw [List.take_add_one, HX.out]; exact HAd.out)⟩
          case measure => simp [intOf]; omega
        · have b5 := (HBX.out.kept HWy.out.bel).cell 5 rfl
          obtain rfl : i = nP := by omega
          have hWp := HWy.out
          rw [List.take_of_length_le (by have := HnP.out; omega)] at hWp
          have HWp := Lib.hid hWp
          clear hWp
          go_wp2_with fail
          clear b5 HWy HW
          go_loopw [77] (fun iv wq => ∃ (q : Nat) (v5 : Value), iv = .int .i64 q ∧ q ≤ nQ ∧ Hid (RB kR wb wq (w.heap.size + 1 + 1 + 1) (w.heap.size + 1) (w.heap.size + 1 + 1) [.string ⟨#[]⟩, .int .u32 0, .slice none 0 0, .int .i64 0, .slice none 0 0, .slice none 0 0] (.string ⟨nm.toArray⟩) (.int .u32 dflt) v2 (.int .i64 hd) v4 v5 rs paths (ports.take q))) (fun iv _ => nQ - (intOf iv).toNat)
          case atStart => exact ⟨0, _, rfl, Nat.zero_le _, HWp⟩
          case round =>
            rename World => wq
            obtain ⟨q, v5, rfl, hq, HWq⟩ := hrel
            have hly : w.heap.size < wq.heap.size := Nat.lt_of_lt_of_le (by omega) HWq.out.bel.size
            by_cases hql : q < nQ
            · obtain ⟨x, hx⟩ : ∃ x, ports[q]? = some x := ⟨_, List.getElem?_eq_getElem (by have := HnQ.out; omega)⟩
              have hxok := Hpo.out x (List.mem_of_getElem? hx)
              obtain ⟨x1, x2⟩ := x
              simp only at hxok
              have hrd := (HRb.out.below HWq.out.bel).ports
              simp only [HnQ.out] at hrd
              obtain ⟨bp, op, hAp, hbp, hcell⟩ := hrd.one (fun _ => rfl) (by omega) (by omega)
              subst hAp
              obtain ⟨c0, c1⟩ := two_cells (f := portC) hcell hx rfl
              have HX := Lib.hid hx
              have hwr1 : IntKind.i64.wrap (x1 : Int) = (x1 : Int) := IntWalk.i64_in _ (by omega)
              have hwr2 : IntKind.i64.wrap (x2 : Int) = (x2 : Int) := IntWalk.i64_in _ (by omega)
              have o5 := HWq.out.out.cell 5 rfl
              have hol := HWq.out.out.lt
              have hlp : (ports.take q).length = q := by rw [List.length_take]; have := HnQ.out; omega
              clear hcell hx hrd
              clear o5
              go_upto_region 21 with fail
              have hk2 := Bk.new wq 110 #[.int .u16 x1, .int .u16 x2] (l := [.int .u16 x1, .int .u16 x2]) rfl
              have hWz0 := HWq.out.kept (one_alloc wq (.cells #[.int .u16 x1, .int .u16 x2] 110))
              generalize wq.alloc _ = wz at hk2 hWz0 ⊢
              have n0 := hk2.cell 0 rfl
              have n1 := hk2.cell 1 rfl
              have hkl := hk2.lt
              have o5 := hWz0.out.cell 5 rfl
              have hol4 := hWz0.out.lt
              have HWz := Lib.hid hWz0
              clear hWz0 hk2 c0 c1
              have hbB : w.heap.size + 1 + 1 + 1 ≤ wz.heap.size := HWz.out.hB.2
              go_wp2_with (at_builtin; refine append_one rfl (.tmp 82) (.tmp 90) 47 120 rfl _ 2 16 infoRP Try.underlying47 rfl (by decide) (by decide) (w.heap.size + 1 + 1 + 1) _ (ports.take q).length ((ports.take q).flatMap portR) rfl (HWz.out.q.alloc _) wz.heap.size [.int .i64 x1, .int .i64 x2] rfl rfl (Bk.new _ _ _ rfl) (by intro u hu; simp at hu; rcases hu with rfl | rfl <;> rfl) (by omega) (by simp; omega) ?_; intro v' w5 hown' hgrow hat; have hWa := HWz.out.kept (one_alloc _ (.cells #[.int .i64 x1, .int .i64 x2] 120)); obtain ⟨_, _, _, _, _, htyv, _⟩ := own_typed hWa.q; have hoa := hWa.out.appended hgrow htyv kR.n12; have z2 := hoa.cell 5 rfl; have zf := hoa.fz 5; have zl := hoa.lt; have HAd := Lib.hid (hWa.addPort (x1, x2) hown' hgrow); obtain ⟨A7, c7, hv7, _⟩ := own_typed hown'; rw [hlp] at hv7; subst hv7; clear hown' hgrow hat hWa htyv hoa)
              go_roundw
              case rel => exact ⟨q + 1, _, by go_num, by omega, Lib.hid (by rw [List.take_add_one, HX.out]; exact HAd.out)⟩
              case measure => simp [intOf]; omega
            · obtain rfl : q = nQ := by omega
              have hWf := HWq.out
              rw [List.take_of_length_le (by have := HnQ.out; omega)] at hWf
              obtain ⟨R9, e2, hv2, _, hr9, _, _⟩ := own_typed hWf.r
              obtain ⟨P9, e4, hv4, _, hp9, _, _⟩ := own_typed hWf.p
              obtain ⟨Q9, e5, hv5, _, hq9, _, _⟩ := own_typed hWf.q
              rw [hrl2] at hv2
              rw [HnP.out] at hv4
              rw [HnQ.out] at hv5
              subst hv2 hv4 hv5
              have HWf := Lib.hid hWf
              have Hr9 := Lib.hid hr9
              have Hp9 := Lib.hid hp9
              have Hq9 := Lib.hid hq9
              have o0 := hWf.out.cell 0 rfl
              have o1 := hWf.out.cell 1 rfl
              have o2 := hWf.out.cell 2 rfl
              have o3 := hWf.out.cell 3 rfl
              have o4 := hWf.out.cell 4 rfl
              have o5 := hWf.out.cell 5 rfl
              have hol := hWf.out.lt
              have r0 := hWf.res.cell 0 rfl
              have r1 := hWf.res.cell 1 rfl
              have r2 := hWf.res.cell 2 rfl
              have r3 := hWf.res.cell 3 rfl
              have r4 := hWf.res.cell 4 rfl
              have r5 := hWf.res.cell 5 rfl
              have f0 := hWf.res.fz 0
              have f1 := hWf.res.fz 1
              have f2 := hWf.res.fz 2
              have f3 := hWf.res.fz 3
              have f4 := hWf.res.fz 4
              have f5 := hWf.res.fz 5
              have hrl3 := hWf.res.lt
              clear hWf hr9 hp9 hq9
              go_wp2_with fail
              have gf := only_trans (only_trans (only_trans (only_trans (only_trans (only_set wq (w.heap.size + 1) 0 (.string ⟨nm.toArray⟩)) (only_set _ (w.heap.size + 1) 1 (.int .u32 dflt))) (only_set _ (w.heap.size + 1) 2 (.slice R9 nR e2))) (only_set _ (w.heap.size + 1) 3 (.int .i64 hd))) (only_set _ (w.heap.size + 1) 4 (.slice P9 i e4))) (only_set _ (w.heap.size + 1) 5 (.slice Q9 q e5))
              refine bodyPost_ret (v := .agg #[.string ⟨nm.toArray⟩, .int .u32 dflt, .slice R9 nR e2, .int .i64 hd, .slice P9 i e4, .slice Q9 q e5]) (by simp [results, Try.results11, go_sem, r0, r1, r2, r3, r4, r5]) rfl ⟨⟨rs, R9, e2, P9, e4, Q9, e5, HMf.out, rfl, ?_⟩, ?_⟩
              · have ht := HWf.out.res.tyb
                exact ⟨Hr9.out.grown gf (Hr9.out.off ht kR.n13), fun r hr => by
                  have := HWf.out.c r hr
                  exact this.grown gf (this.off ht kR.n14), Hp9.out.grown gf (Hp9.out.off ht kR.n15), Hq9.out.grown gf (Hq9.out.off ht kR.n16)⟩
              · exact only_below (HB0.out.trans (HWf.out.bel.mono HB0.out.size)) gf (by omega) (by omega)
theorem ref_any (nm : Bs) (dflt : Nat) (rules : List RuleV) (RA : Option Addr) (nR Rc hd : Nat) (paths : List (Bs × Nat)) (PA : Option Addr) (nP Pc : Nat) (ports : List (Nat × Nat)) (QA : Option Addr) (nQ Qc : Nat) (w : World)
    (hnR : rules.length = nR) (hnP : paths.length = nP) (hnQ : ports.length = nQ) (hlR : nR ≤ 80) (hlP : nP ≤ 50) (hlQ : nQ ≤ 50)
    (hru : ∀ r ∈ rules, r.m.conds.length ≤ 20 ∧ ∀ c ∈ r.m.conds, c.ok) (hhd : hd < 65536) (hpa : ∀ x ∈ paths, x.2 < 65536) (hpo : ∀ x ∈ ports, x.1 < 65536 ∧ x.2 < 65536)
    (hR : Reads w ⟨nm, dflt, rules, RA, Rc, hd, paths, PA, Pc, ports, QA, Qc⟩) :
    Calls Try.prog 11 #[.agg #[.string ⟨nm.toArray⟩, .int .u32 dflt, .slice RA nR Rc, .int .u16 hd, .slice PA nP Pc, .slice QA nQ Qc]] w (RefPost nm dflt rules nR hd paths nP ports nQ w) :=
  (refT_any nm dflt rules RA nR Rc hd paths PA nP Pc ports QA nQ Qc w hnR hnP hnQ hlR hlP hlQ hru hhd hpa hpo hR).mono fun _ _ ⟨⟨rs, RA, Rc, PA, Pc, QA, Qc, h1, h2, h3⟩, h4⟩ => ⟨⟨rs, RA, Rc, PA, Pc, QA, Qc, h1, h2, h3.reads⟩, h4⟩
end Go.Proofs.Ytagbamengcnfeaa

