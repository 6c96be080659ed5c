/- Tidy: how many go to each name. -/
import Derived.Test.YtcageojoafkojaaJuN
namespace Go.Proofs.Ytcageojoafkojaa.Ju
open Go.RowKit Go.Maps Go.WideMaps Go.WideElems Go.ChangeMaps
set_option maxRecDepth 100000 in
theorem ways_of {n c : Int} {W : List (Int × Int)} (h : (mD W).atKey (.int .i64 n) (.lit (.int .i64 0)) = .lit (.int .i64 c)) : c = gW n W := by
  rw [mD_at] at h
  unfold gW
  cases hl : lk n W with
  | none => rw [hl] at h; injection h with h; injection h with _ h; exact h.symm
  | some v => rw [hl] at h; injection h with h; injection h with _ h; exact h.symm
theorem grown_below {w w' : World} (h : Below w.heap.size w w') (r : Option Nat) : w.grownBy w' r := ⟨h.os, h.tape, h.output, h.size, fun i hi _ => h.block i hi⟩
set_option maxHeartbeats 8000000 in
set_option maxRecDepth 100000 in
theorem count_any (q : PtM) (k : Int) (m b : Nat) (W : List (Int × Int)) (w : World) (hq : q.ok) (hk : -1 ≤ k ∧ k ≤ 1) (hm : NMap w 3 m W) (hs : SmW b W) (hb : b ≤ 1000000) :
    Calls Try.prog 73 #[.map (some m), .agg #[.int .u8 q.kd, .int .i64 q.to, .int .i64 q.el, .int .u16 q.i.c, .int .u8 q.i.t, .int .u8 q.i.f, .int .u32 q.i.k], .int .i64 k] w fun e w' => e = .returned (.tuple #[]) ∧ NMap w' 3 m (cntW q k W) ∧ w.grownBy w' (some m) := by
  obtain ⟨X, hX⟩ : ∃ X, X = w.alloc (.cells #[.int .u8 q.kd, .int .i64 q.to, .int .i64 q.el, .int .u16 q.i.c, .int .u8 q.i.t, .int .u8 q.i.f, .int .u32 q.i.k] 125) := ⟨_, rfl⟩
  have hbx : Bk X w.heap.size 125 q.cells := by rw [hX]; exact Bk.new w _ _ rfl
  have hb1 : Below w.heap.size w X := by rw [hX]; exact oneb w _
  have HG := Lib.hid (grown_below hb1 (some m))
  have HBx := Lib.hid hbx
  have HM := Lib.hid (hm.below hb1)
  have HXM := Lib.hid (show w.heap.size ≠ m by have := hm.lt; omega)
  have hWl := hs.1
  have t1 := hq.to1
  have t2 := hq.to2
  have l1 := hq.el1
  have l2 := hq.el2
  obtain ⟨u1, hu1⟩ : ∃ u, u = gW q.to W := ⟨_, rfl⟩
  have hg1 := gW_sm hs q.to
  rw [← hu1] at hg1
  obtain ⟨g1, hgg1⟩ : ∃ g, g = u1 + k := ⟨_, rfl⟩
  have wg1 := wfI (a := g1) (by omega) (by omega)
  have e1 : IntKind.i64.wrap (u1 + k) = g1 := by rw [IntKind.wrap_i64]; omega
  have hs1 : SmW (b + 1) ((q.to, g1) :: W) := by rw [hgg1, hu1]; exact hs.push ⟨t1, t2⟩ hk
  obtain ⟨u2, hu2⟩ : ∃ u, u = gW q.el ((q.to, g1) :: W) := ⟨_, rfl⟩
  have hg2 := gW_sm hs1 q.el
  rw [← hu2] at hg2
  obtain ⟨g2, hgg2⟩ : ∃ g, g = u2 + k := ⟨_, rfl⟩
  have wg2 := wfI (a := g2) (by omega) (by omega)
  have e2 : IntKind.i64.wrap (u2 + k) = g2 := by rw [IntKind.wrap_i64]; omega
  have Hu1 := Lib.hid hu1
  have Hu2 := Lib.hid hu2
  have HV3 := Lib.hid (show q.kd = 3 → cntW q k W = (q.el, g2) :: (q.to, g1) :: W from fun h => by unfold cntW; rw [if_pos h, hgg2, hu2, hgg1, hu1])
  have HV4 := Lib.hid (show q.kd = 4 → cntW q k W = (q.to, g1) :: W from fun h => by unfold cntW; rw [if_neg (by omega), if_pos h, hgg1, hu1])
  have HV0 := Lib.hid (show q.kd ≠ 3 → q.kd ≠ 4 → cntW q k W = W from fun h h' => by unfold cntW; rw [if_neg h, if_neg h'])
  go_enter Try.func73, Try.ntmps73
  go_upto_region 1 with fail
  rw [← hX]
  clear hX hb1 hbx hm hs hu1 hg1 hs1 hu2 hg2 hgg1 hgg2
  generalize w.heap.size = xb at HBx HXM ⊢
  have y0 := HBx.out.cell 0 rfl
  have y1 := HBx.out.cell 1 rfl
  have y2 := HBx.out.cell 2 rfl
  have yl := HBx.out.lt
  by_cases h3 : q.kd = 3
  · have k3 : ((q.kd : Int) == 3) = true := by rw [h3]; rfl
    have HV := Lib.hid (HV3.out h3)
    clear h3 HV3 HV4 HV0
    go_wp2_with (first | (at_lookup; refine wpList_lookup_own_int _ rfl _ _ 185 rfl 115 3 .i64 nameKeyed Try.underlying185 Try.underlying3 (Try.zeroValue3 _) m _ _ rfl HM.out _ (.int .i64 q.to) rfl (keyOf_int_mk Try.underlying115 (wfI t1 t2)) ?_; intro c hat _; obtain rfl : c = u1 := (ways_of hat).trans Hu1.out.symm; clear hat) | (at_mapUpdate; refine wpList_mapUpdate_own _ rfl _ _ _ 185 rfl 115 3 nameKeyed Try.underlying185 (plainElem Try.prog 3) m _ _ rfl HM.out (by first | (unfold maxLen; omega) | (simp only [List.length_cons]; unfold maxLen; omega)) _ _ (.int .i64 q.to) rfl rfl (keyOf_int_mk Try.underlying115 (wfI t1 t2)) (.lit (.int .i64 g1)) [] (plainElem_int Try.underlying3 wg1) ?_; intro w4 hm4 hg4; have HM := Lib.hid (NMap.put hm4); have HG := Lib.hid (only_trans HG.out hg4); have hbx := HBx.out.grown hg4 (fun e => by injection e with e; exact HXM.out e); have y0 := hbx.cell 0 rfl; have y1 := hbx.cell 1 rfl; have y2 := hbx.cell 2 rfl; have yl := hbx.lt; have HBx := Lib.hid hbx; clear hm4 hg4 hbx) | (at_lookup; refine wpList_lookup_own_int _ rfl _ _ 185 rfl 115 3 .i64 nameKeyed Try.underlying185 Try.underlying3 (Try.zeroValue3 _) m _ _ rfl HM.out _ (.int .i64 q.el) rfl (keyOf_int_mk Try.underlying115 (wfI l1 l2)) ?_; intro c hat _; obtain rfl : c = u2 := (ways_of hat).trans Hu2.out.symm; clear hat) | (at_mapUpdate; refine wpList_mapUpdate_own _ rfl _ _ _ 185 rfl 115 3 nameKeyed Try.underlying185 (plainElem Try.prog 3) m _ _ rfl HM.out (by first | (unfold maxLen; omega) | (simp only [List.length_cons]; unfold maxLen; omega)) _ _ (.int .i64 q.el) rfl rfl (keyOf_int_mk Try.underlying115 (wfI l1 l2)) (.lit (.int .i64 g2)) [] (plainElem_int Try.underlying3 wg2) ?_; intro w4 hm4 hg4; have HM := Lib.hid (NMap.put hm4); have HG := Lib.hid (only_trans HG.out hg4); have hbx := HBx.out.grown hg4 (fun e => by injection e with e; exact HXM.out e); have y0 := hbx.cell 0 rfl; have y1 := hbx.cell 1 rfl; have y2 := hbx.cell 2 rfl; have yl := hbx.lt; have HBx := Lib.hid hbx; clear hm4 hg4 hbx))
    go_end0
    rw [HV.out]
    exact ⟨rfl, HM.out, HG.out⟩
  have k3 : ((q.kd : Int) == 3) = false := by rw [beq_eq_false_iff_ne]; omega
  by_cases h4 : q.kd = 4
  · have k4 : ((q.kd : Int) == 4) = true := by rw [h4]; rfl
    have HV := Lib.hid (HV4.out h4)
    clear h3 h4 HV3 HV4 HV0
    go_wp2_with (first | (at_lookup; refine wpList_lookup_own_int _ rfl _ _ 185 rfl 115 3 .i64 nameKeyed Try.underlying185 Try.underlying3 (Try.zeroValue3 _) m _ _ rfl HM.out _ (.int .i64 q.to) rfl (keyOf_int_mk Try.underlying115 (wfI t1 t2)) ?_; intro c hat _; obtain rfl : c = u1 := (ways_of hat).trans Hu1.out.symm; clear hat) | (at_mapUpdate; refine wpList_mapUpdate_own _ rfl _ _ _ 185 rfl 115 3 nameKeyed Try.underlying185 (plainElem Try.prog 3) m _ _ rfl HM.out (by first | (unfold maxLen; omega) | (simp only [List.length_cons]; unfold maxLen; omega)) _ _ (.int .i64 q.to) rfl rfl (keyOf_int_mk Try.underlying115 (wfI t1 t2)) (.lit (.int .i64 g1)) [] (plainElem_int Try.underlying3 wg1) ?_; intro w4 hm4 hg4; have HM := Lib.hid (NMap.put hm4); have HG := Lib.hid (only_trans HG.out hg4); have hbx := HBx.out.grown hg4 (fun e => by injection e with e; exact HXM.out e); have y0 := hbx.cell 0 rfl; have y1 := hbx.cell 1 rfl; have y2 := hbx.cell 2 rfl; have yl := hbx.lt; have HBx := Lib.hid hbx; clear hm4 hg4 hbx))
    go_end0
    rw [HV.out]
    exact ⟨rfl, HM.out, HG.out⟩
  have k4 : ((q.kd : Int) == 4) = false := by rw [beq_eq_false_iff_ne]; omega
  have HV := Lib.hid (HV0.out h3 h4)
  clear h3 h4 HV3 HV4 HV0
  go_wp2_with fail
  go_end0
  rw [HV.out]
  exact ⟨rfl, HM.out, HG.out⟩
end Go.Proofs.Ytcageojoafkojaa.Ju

