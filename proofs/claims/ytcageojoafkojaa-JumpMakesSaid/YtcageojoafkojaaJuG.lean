/- Code that is being made: a part laid ahead. -/
import Derived.Test.YtcageojoafkojaaJuF
namespace Go.Proofs.Ytcageojoafkojaa.Ju
open Go.RowKit Go.Maps Go.WideMaps Go.WideElems Go.ChangeMaps
set_option maxHeartbeats 16000000 in
set_option maxRecDepth 100000 in
theorem lay_any (w : World) (p m B : Nat) (v : Value) (c : CdM) (q : PtM) (h : CR w p m B v c) (hq : q.ok) (hbn : Bnd c) (hl : c.ins.length ≤ 4990) (hbl : c.bh.length ≤ 100000) :
    Calls Try.prog 49 #[.pointer (some ⟨p, 0, none⟩), .agg q.cells.toArray] w (StepPost p m B v w ((layF q c).1 : Nat) (layF q c).2) := by
  show Calls Try.prog _ #[.pointer (some ⟨p, 0, none⟩), .agg #[.int .u8 q.kd, .int .i64 q.to, .int .i64 q.el, .int .u16 q.i.c, .int .u8 q.i.t, .int .u8 q.i.f, .int .u32 q.i.k]] w _
  obtain ⟨W, hW⟩ : ∃ W, W = w.alloc (.cells #[.int .u8 q.kd, .int .i64 q.to, .int .i64 q.el, .int .u16 q.i.c, .int .u8 q.i.t, .int .u8 q.i.f, .int .u32 q.i.k] 125) := ⟨_, rfl⟩
  have hbx : Bk W w.heap.size 125 q.cells := by rw [hW]; exact Bk.new w _ _ rfl
  have hb1 : Below w.heap.size w W := by rw [hW]; exact oneb w _
  have HC := Lib.hid (h.below hb1)
  have HF := Lib.hid (Fr.of_below p m v hb1)
  have HBx := Lib.hid hbx
  go_enter Try.func49, Try.ntmps49
  go_upto_region 1 with fail
  rw [← hW]
  clear hW hb1 hbx h
  generalize w.heap.size = xb at *
  have y0 := HBx.out.cell 0 rfl
  have y1 := HBx.out.cell 1 rfl
  have y2 := HBx.out.cell 2 rfl
  have y3 := HBx.out.cell 3 rfl
  have y4 := HBx.out.cell 4 rfl
  have y5 := HBx.out.cell 5 rfl
  have y6 := HBx.out.cell 6 rfl
  have yl := HBx.out.lt
  by_cases h1 : q.kd = 1
  · have e1 : ((q.kd : Int) == 1) = true := by rw [h1]; rfl
    have HK := Lib.hid h1
    clear h1
    go_wp2_with fail
    refine (here_any W p m B v c q HC.out HK.out hq.to1 hq.to2 (by omega) hbl).mono ?_
    rintro e w2 ⟨rfl, v2, hC2, hF2⟩
    have HC2 := Lib.hid hC2
    have HF2 := Lib.hid (HF.out.trans hF2)
    clear hC2 hF2
    go_wp2_with fail
    go_ret
    exact ⟨rfl, _, HC2.out, HF2.out⟩
  have e1 : ((q.kd : Int) == 1) = false := by rw [beq_eq_false_iff_ne]; omega
  by_cases h2 : q.kd = 2
  · have e2 : ((q.kd : Int) == 2) = true := by rw [h2]; rfl
    have HK := Lib.hid h2
    clear h1 h2
    go_wp2_with fail
    refine (plain_any W p m B v c q HC.out HK.out hq.i (by omega)).mono ?_
    rintro e w2 ⟨rfl, v2, hC2, hF2⟩
    have HC2 := Lib.hid hC2
    have HF2 := Lib.hid (HF.out.trans hF2)
    clear hC2 hF2
    go_wp2_with fail
    go_ret
    exact ⟨rfl, _, HC2.out, HF2.out⟩
  have e2 : ((q.kd : Int) == 2) = false := by rw [beq_eq_false_iff_ne]; omega
  by_cases h3 : q.kd = 3
  · have e3 : ((q.kd : Int) == 3) = true := by rw [h3]; rfl
    have HK := Lib.hid h3
    clear h1 h2 h3
    go_wp2_with fail
    refine (compare_any W p m B v c q HC.out HK.out hq hbn hl).mono ?_
    rintro e w2 ⟨rfl, v2, hC2, hF2⟩
    have HC2 := Lib.hid hC2
    have HF2 := Lib.hid (HF.out.trans hF2)
    clear hC2 hF2
    go_wp2_with fail
    go_ret
    exact ⟨rfl, _, HC2.out, HF2.out⟩
  have e3 : ((q.kd : Int) == 3) = false := by rw [beq_eq_false_iff_ne]; omega
  by_cases h4 : q.kd = 4
  · have e4 : ((q.kd : Int) == 4) = true := by rw [h4]; rfl
    have HK := Lib.hid h4
    clear h1 h2 h3 h4
    go_wp2_with fail
    refine (leave_any W p m B v c q HC.out HK.out hq.to1 hq.to2 hbn (by omega)).mono ?_
    rintro e w2 ⟨rfl, v2, hC2, hF2⟩
    have HC2 := Lib.hid hC2
    have HF2 := Lib.hid (HF.out.trans hF2)
    clear hC2 hF2
    go_wp2_with fail
    go_ret
    exact ⟨rfl, _, HC2.out, HF2.out⟩
  have e4 : ((q.kd : Int) == 4) = false := by rw [beq_eq_false_iff_ne]; omega
  have HV := Lib.hid (show layF q c = (210, c) by unfold layF; rw [if_neg h1, if_neg h2, if_neg h3, if_neg h4])
  clear h1 h2 h3 h4
  go_wp2_with fail
  go_ret
  rw [HV.out]
  exact ⟨rfl, _, HC.out, HF.out⟩
end Go.Proofs.Ytcageojoafkojaa.Ju

