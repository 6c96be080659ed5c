/- Code that is being made: a name's place, a plain instruction, a way to a name, how far a comparison jumps. -/
import Derived.Test.YtcageojoafkojaaJuD
namespace Go.Proofs.Ytcageojoafkojaa.Ju
open Go.RowKit Go.Maps Go.WideMaps Go.WideElems Go.ChangeMaps
theorem CR.named {w w' : World} {p m B : Nat} {v : Value} {c : CdM} {n : Int} {z : Nat} (h : CR w p m B v c) (hm : w'.ownsMap Try.prog 115 (plainElem Try.prog 3) m ((c.bh.map bhI).length + 1) ((mD (c.bh.map bhI)).put (.int .i64 n) (.lit (.int .i64 (z : Int))))) (hg : w.grownBy w' (some m)) (hz : z = c.ins.length) : CR w' p m B v ⟨c.ins, (n, c.ins.length) :: c.bh⟩ := by
  subst hz
  exact ⟨h.box.grown hg (fun e => by injection e with e; exact h.pm e), own_keep h.row hg (fun b hb e => by have := (own_ge h.row b hb).1; have := h.mB; omega), hm, h.pB, h.mB, h.pm, Nat.le_trans h.le hg.size⟩
set_option maxHeartbeats 8000000 in
set_option maxRecDepth 100000 in
theorem reach_any (w : World) (p m B : Nat) (v : Value) (c : CdM) (n : Int) (b : Nat) (h : CR w p m B v c) (h1 : -9223372036854775808 ≤ n) (h2 : n ≤ 9223372036854775807) (hb : lk n c.bh = some b) (hbl : b ≤ c.ins.length) (hl : c.ins.length ≤ 5000) :
    Calls Try.prog 100 #[.pointer (some ⟨p, 0, none⟩), .int .i64 n] w (StepPost p m B v w ((reachF c.ins b).1 : Int) ⟨(reachF c.ins b).2, c.bh⟩) := by
  have HC := Lib.hid h
  have HFar := Lib.hid (fun W (h : CR W p m B v c) => far_b W p m B v c n b h h1 h2 hb hbl hl)
  have HSk := Lib.hid (fun W (h : CR W p m B v c) => skip_any W p m B v c n b h h1 h2 hb hbl hl)
  obtain ⟨d, hd⟩ : ∃ d, d = c.ins.length - b := ⟨_, rfl⟩
  have HD := Lib.hid hd
  rw [← hd] at HFar HSk
  clear h hb hbl hd
  go_enter Try.func100, Try.ntmps100
  go_wp2_with fail
  refine (HFar.out _ HC.out).mono ?_
  rintro e w1 ⟨rfl, hb1⟩
  have HC1 := Lib.hid (HC.out.below hb1)
  have HF1 := Lib.hid (Fr.of_below p m v hb1)
  clear hb1 HFar
  by_cases hz : d ≤ 253
  · have g1 : (d : Int) ≤ 253 := by omega
    have g2 : decide ((d : Int) ≤ 253) = true := decide_eq_true g1
    have HZ := Lib.hid (show reachF c.ins b = (d, c.ins) by unfold reachF; rw [← HD.out, if_pos hz])
    clear hz
    go_wp2_with fail
    go_ret
    rw [HZ.out]
    exact ⟨rfl, _, HC1.out, HF1.out⟩
  · have g1 : ¬ (d : Int) ≤ 253 := by omega
    have g2 : decide ((d : Int) ≤ 253) = false := decide_eq_false g1
    have HZ := Lib.hid (show reachF c.ins b = (0, skipI d :: c.ins) by unfold reachF; rw [← HD.out, if_neg hz])
    clear hz
    go_wp2_with fail
    refine (HSk.out _ HC1.out).mono ?_
    rintro e w2 ⟨rfl, v2, hC2, hF2⟩
    have HC2 := Lib.hid hC2
    have HF2 := Lib.hid (HF1.out.trans hF2)
    clear hC2 hF2
    go_wp2_with fail
    go_ret
    rw [HZ.out]
    exact ⟨rfl, _, HC2.out, HF2.out⟩
set_option maxHeartbeats 8000000 in
set_option maxRecDepth 100000 in
theorem leave_any (w : World) (p m B : Nat) (v : Value) (c : CdM) (q : PtM) (h : CR w p m B v c) (hk : q.kd = 4) (h1 : -9223372036854775808 ≤ q.to) (h2 : q.to ≤ 9223372036854775807) (hbn : Bnd c) (hl : c.ins.length ≤ 5000) :
    Calls Try.prog 79 #[.pointer (some ⟨p, 0, none⟩), .int .i64 q.to] w (StepPost p m B v w ((layF q c).1 : Nat) (layF q c).2) := by
  have HC := Lib.hid h
  have HTh := Lib.hid (there_any w p m B v c q.to h h1 h2)
  cases hb : lk q.to c.bh with
  | none =>
    have HV := Lib.hid (show layF q c = (207, c) by unfold layF; rw [hk]; simp [hb])
    rw [hb] at HTh
    clear h hb
    go_enter Try.func79, Try.ntmps79
    go_wp2_with fail
    refine HTh.out.mono ?_
    rintro e w1 ⟨rfl, rfl⟩
    go_wp2_with fail
    go_ret
    rw [HV.out]
    exact ⟨rfl, _, HC.out, Fr.refl _ _ _ _⟩
  | some b =>
    have HV := Lib.hid (show layF q c = (0, ⟨skipI (c.ins.length - b) :: c.ins, c.bh⟩) by unfold layF; rw [hk]; simp [hb])
    have HSk := Lib.hid (skip_any w p m B v c q.to b h h1 h2 hb (hbn _ _ hb) hl)
    rw [hb] at HTh
    clear h hb
    go_enter Try.func79, Try.ntmps79
    go_wp2_with fail
    refine HTh.out.mono ?_
    rintro e w1 ⟨rfl, rfl⟩
    go_wp2_with fail
    refine HSk.out.mono ?_
    rintro e w2 ⟨rfl, v2, hC2, hF2⟩
    have HC2 := Lib.hid hC2
    have HF2 := Lib.hid hF2
    clear hC2 hF2
    go_wp2_with fail
    go_ret
    rw [HV.out]
    exact ⟨rfl, _, HC2.out, HF2.out⟩
set_option maxHeartbeats 8000000 in
set_option maxRecDepth 100000 in
theorem here_any (w : World) (p m B : Nat) (v : Value) (c : CdM) (q : PtM) (h : CR w p m B v c) (hk : q.kd = 1) (h1 : -9223372036854775808 ≤ q.to) (h2 : q.to ≤ 9223372036854775807) (hl : c.ins.length ≤ 5000) (hbl : c.bh.length ≤ 100000) :
    Calls Try.prog 76 #[.pointer (some ⟨p, 0, none⟩), .int .i64 q.to] w (StepPost p m B v w ((layF q c).1 : Nat) (layF q c).2) := by
  have HC := Lib.hid h
  have HTh := Lib.hid (there_any w p m B v c q.to h h1 h2)
  cases hb : lk q.to c.bh with
  | some b =>
    have HV := Lib.hid (show layF q c = (206, c) by unfold layF; rw [hk]; simp [hb])
    rw [hb] at HTh
    clear h hb
    go_enter Try.func76, Try.ntmps76
    go_wp2_with fail
    refine HTh.out.mono ?_
    rintro e w1 ⟨rfl, rfl⟩
    go_wp2_with fail
    go_ret
    rw [HV.out]
    exact ⟨rfl, _, HC.out, Fr.refl _ _ _ _⟩
  | none =>
    have HV := Lib.hid (show layF q c = (0, ⟨c.ins, (q.to, c.ins.length) :: c.bh⟩) by unfold layF; rw [hk]; simp [hb])
    rw [hb] at HTh
    obtain ⟨A, cp, rfl⟩ := h.slice
    obtain ⟨k0, k1, kl, kf⟩ := h.cells
    obtain ⟨z, hz⟩ : ∃ z, z = c.ins.length := ⟨_, rfl⟩
    have HZ := Lib.hid hz
    have HM := Lib.hid (show NMap w.drew 3 m (c.bh.map bhI) from h.drew.mp)
    have hml : (c.bh.map bhI).length < maxLen := by rw [List.length_map]; unfold maxLen; omega
    rw [← hz] at k0
    have wv := wfI (a := (z : Int)) (by omega) (by omega)
    clear h hb hz
    go_enter Try.func76, Try.ntmps76
    go_wp2_with fail
    refine HTh.out.mono ?_
    rintro e w1 ⟨rfl, rfl⟩
    go_wp2_with fail
    go_still_tail 10, (by kernel_rfl)
    go_wp2_with (at_mapUpdate; go_loud (refine wpList_mapUpdate_own _ rfl _ _ _ 131 rfl 115 3 nameKeyed Try.underlying131 (plainElem Try.prog 3) m _ _ rfl HM.out hml _ _ (.int .i64 q.to) rfl rfl (keyOf_int_mk Try.underlying115 (wfI h1 h2)) (.lit (.int .i64 (z : Int))) [] (plainElem_int Try.underlying3 wv) ?_); intro w4 hm4 hg4; have HM4 := Lib.hid hm4; have HG4 := Lib.hid hg4; clear hm4 hg4)
    go_ret
    rw [HV.out]
    exact ⟨rfl, _, HC.out.drew.named HM4.out HG4.out HZ.out, (Fr.of_below p m _ (Below.refl _ _).drew).trans (Fr.grown _ HG4.out (Or.inr rfl))⟩
set_option maxHeartbeats 8000000 in
set_option maxRecDepth 100000 in
theorem plain_any (w : World) (p m B : Nat) (v : Value) (c : CdM) (q : PtM) (h : CR w p m B v c) (hk : q.kd = 2) (hq : q.i.ok) (hl : c.ins.length ≤ 5000) :
    Calls Try.prog 77 #[.pointer (some ⟨p, 0, none⟩), .agg #[.int .u16 q.i.c, .int .u8 q.i.t, .int .u8 q.i.f, .int .u32 q.i.k]] w (StepPost p m B v w ((layF q c).1 : Nat) (layF q c).2) := by
  obtain ⟨W, hW⟩ : ∃ W, W = w.alloc (.cells #[.int .u16 q.i.c, .int .u8 q.i.t, .int .u8 q.i.f, .int .u32 q.i.k] 122) := ⟨_, rfl⟩
  have hbx : Bk W w.heap.size 122 q.i.cells := by rw [hW]; exact Bk.new w _ _ rfl
  have hb1 : Below w.heap.size w W := by rw [hW]; exact oneb w _
  have HC := Lib.hid (h.below hb1)
  have HF := Lib.hid (Fr.of_below p m v hb1)
  have HBx := Lib.hid hbx
  have HCl := Lib.hid (fun W => class_any q.i.c W hq.1)
  go_enter Try.func77, Try.ntmps77
  go_upto_region 1 with fail
  rw [← hW]
  clear hW hb1 hbx h
  generalize w.heap.size = xb at *
  have y0 := HBx.out.cell 0 rfl
  have y1 := HBx.out.cell 1 rfl
  have y2 := HBx.out.cell 2 rfl
  have y3 := HBx.out.cell 3 rfl
  have yl := HBx.out.lt
  obtain ⟨z, hz⟩ : ∃ z, z = q.i.c % 8 := ⟨_, rfl⟩
  rw [← hz] at HCl
  go_wp2_with fail
  refine (HCl.out _).mono ?_
  rintro e w1 ⟨rfl, rfl⟩
  by_cases h5 : z = 5
  · have e1 : ((z : Int) == 5) = true := by rw [h5]; rfl
    have HV := Lib.hid (show layF q c = (210, c) by unfold layF; rw [hk, ← hz, h5]; simp)
    clear h5 hz
    go_wp2_with fail
    go_ret
    rw [HV.out]
    exact ⟨rfl, _, HC.out, HF.out⟩
  · have e1 : ((z : Int) == 5) = false := by rw [beq_eq_false_iff_ne]; omega
    have HV := Lib.hid (show layF q c = (0, ⟨q.i :: c.ins, c.bh⟩) by unfold layF; rw [hk, ← hz]; simp [h5])
    have HD := Lib.hid (HC.out.drew)
    have HFD := Lib.hid (HF.out.trans (Fr.of_below p m v (Below.refl W.heap.size W).drew))
    clear h5 hz HC HF
    have HC := HD
    have HF := HFD
    clear HD HFD
    obtain ⟨A, cp, rfl⟩ := HC.out.slice
    obtain ⟨k0, k1, kl, kf⟩ := HC.out.cells
    have kl2 : p < W.heap.size := kl
    have k02 : W.cell? ⟨p, 0, none⟩ = some (.slice A c.ins.length cp) := k0
    go_wp2_with fail
    refine wp_region_any (by kernel_rfl) ?_
    try (change wpAny _ _ _ _ _ _ _ (World.drew _))
    refine wpAny_take (i := 0) (v := ?_) rfl (by kernel_rfl) (by kernel_rfl) (by kernel_rfl) (fun _ _ _ h => h) (Or.inl ⟨by rfl, ?_⟩) ?_
    rotate_left 1
    · intro w
      (go_simp) <;> (with_reducible rfl)
    refine wpAny_take (i := 1) (v := ?_) rfl (by kernel_rfl) (by kernel_rfl) (by kernel_rfl) (fun _ _ _ h => h) (Or.inl ⟨by rfl, ?_⟩) ?_
    rotate_left 1
    · intro w
      (go_simp) <;> (with_reducible rfl)
    refine wpAny_take (i := 2) (v := ?_) rfl (by kernel_rfl) (by kernel_rfl) (by kernel_rfl) (fun _ _ _ h => h) (Or.inl ⟨by rfl, ?_⟩) ?_
    rotate_left 1
    · intro w
      (go_simp) <;> (with_reducible rfl)
    refine wpAny_take (i := 3) (v := ?_) rfl (by kernel_rfl) (by kernel_rfl) (by kernel_rfl) (fun _ _ _ h => h) (Or.inl ⟨by rfl, ?_⟩) ?_
    rotate_left 1
    · intro w
      (go_simp) <;> (with_reducible rfl)
    refine wpAny_ready (rs := [4, 5]) (by kernel_rfl) (by simp) ?_
    refine AllReady.cons rfl (fun K hK => ?_) ?_
    · skip
      go_simp
      refine hK _ _ ?_
      clear hK K
      refine wpAny_ready (rs := [5]) (by kernel_rfl) (by simp) ?_
      refine AllReady.cons rfl (fun K hK => ?_) ?_
      · skip
        go_simp
        refine hK _ _ ?_
        clear hK K
        refine wpAny_ready (rs := [6]) (by kernel_rfl) (by simp) ?_
        refine AllReady.cons rfl (fun K hK => ?_) ?_
        · skip
          go_simp
          refine hK _ _ ?_
          clear hK K
          refine wpAny_ready (rs := [7]) (by kernel_rfl) (by simp) ?_
          refine AllReady.cons rfl (fun K hK => ?_) ?_
          · skip
            obtain ⟨v2, wb, hr, hC2, hF2, r0, r1, r2⟩ := CR.run HC.out q.i hl 70
            obtain ⟨A2, c2, hv2⟩ := hC2.slice
            obtain ⟨n2, hn2⟩ : ∃ n2, n2 = (⟨q.i :: c.ins, c.bh⟩ : CdM).ins.length := ⟨_, rfl⟩
            rw [← hn2] at hv2
            clear hn2
            subst hv2
            have HC2 := Lib.hid hC2
            have HF2 := Lib.hid (HF.out.trans hF2)
            refine op_append (.tmp 13) (.tmp 15) 70 rfl _ _ _ wb rfl rfl hr ?_
            refine hK _ _ ?_
            clear hK K hr hC2 hF2 k0 k1 kl kf
            refine wpAny_take (i := 8) (v := ?_) rfl (by kernel_rfl) (by kernel_rfl) (by kernel_rfl) (fun _ _ _ h => h) (Or.inl ⟨by rfl, ?_⟩) ?_
            rotate_left 1
            · intro w
              (go_simp) <;> (with_reducible rfl)
            refine wpAny_take (i := 9) (v := ?_) rfl (by kernel_rfl) (by kernel_rfl) (by kernel_rfl) (fun _ _ _ h => h) (Or.inl ⟨by rfl, ?_⟩) ?_
            rotate_left 1
            · intro w
              (go_simp) <;> (with_reducible rfl)
            refine wpAny_ready (rs := [10]) (by kernel_rfl) (by simp) ?_
            refine AllReady.cons rfl (fun K hK => ?_) ?_
            · skip
              go_simp
              refine hK _ _ ?_
              clear hK K
              refine wpAny_done (by kernel_rfl) ?_ _
              go_wp2_with fail
              go_ret
              rw [HV.out]
              exact ⟨rfl, _, HC2.out, HF2.out⟩
            exact AllReady.nil
          exact AllReady.nil
        exact AllReady.nil
      exact AllReady.nil
    refine AllReady.cons rfl (fun K hK => ?_) ?_
    · skip
      go_simp
      refine hK _ _ ?_
      clear hK K
      refine wpAny_ready (rs := [4, 6]) (by kernel_rfl) (by simp) ?_
      refine AllReady.cons rfl (fun K hK => ?_) ?_
      · skip
        go_simp
        refine hK _ _ ?_
        clear hK K
        refine wpAny_ready (rs := [6]) (by kernel_rfl) (by simp) ?_
        refine AllReady.cons rfl (fun K hK => ?_) ?_
        · skip
          go_simp
          refine hK _ _ ?_
          clear hK K
          refine wpAny_ready (rs := [7]) (by kernel_rfl) (by simp) ?_
          refine AllReady.cons rfl (fun K hK => ?_) ?_
          · skip
            obtain ⟨v2, wb, hr, hC2, hF2, r0, r1, r2⟩ := CR.run HC.out q.i hl 70
            obtain ⟨A2, c2, hv2⟩ := hC2.slice
            obtain ⟨n2, hn2⟩ : ∃ n2, n2 = (⟨q.i :: c.ins, c.bh⟩ : CdM).ins.length := ⟨_, rfl⟩
            rw [← hn2] at hv2
            clear hn2
            subst hv2
            have HC2 := Lib.hid hC2
            have HF2 := Lib.hid (HF.out.trans hF2)
            refine op_append (.tmp 13) (.tmp 15) 70 rfl _ _ _ wb rfl rfl hr ?_
            refine hK _ _ ?_
            clear hK K hr hC2 hF2 k0 k1 kl kf
            refine wpAny_take (i := 8) (v := ?_) rfl (by kernel_rfl) (by kernel_rfl) (by kernel_rfl) (fun _ _ _ h => h) (Or.inl ⟨by rfl, ?_⟩) ?_
            rotate_left 1
            · intro w
              (go_simp) <;> (with_reducible rfl)
            refine wpAny_take (i := 9) (v := ?_) rfl (by kernel_rfl) (by kernel_rfl) (by kernel_rfl) (fun _ _ _ h => h) (Or.inl ⟨by rfl, ?_⟩) ?_
            rotate_left 1
            · intro w
              (go_simp) <;> (with_reducible rfl)
            refine wpAny_ready (rs := [10]) (by kernel_rfl) (by simp) ?_
            refine AllReady.cons rfl (fun K hK => ?_) ?_
            · skip
              go_simp
              refine hK _ _ ?_
              clear hK K
              refine wpAny_done (by kernel_rfl) ?_ _
              go_wp2_with fail
              go_ret
              rw [HV.out]
              exact ⟨rfl, _, HC2.out, HF2.out⟩
            exact AllReady.nil
          exact AllReady.nil
        exact AllReady.nil
      refine AllReady.cons rfl (fun K hK => ?_) ?_
      · skip
        go_simp
        refine hK _ _ ?_
        clear hK K
        refine wpAny_ready (rs := [4]) (by kernel_rfl) (by simp) ?_
        refine AllReady.cons rfl (fun K hK => ?_) ?_
        · skip
          go_simp
          refine hK _ _ ?_
          clear hK K
          refine wpAny_ready (rs := [7]) (by kernel_rfl) (by simp) ?_
          refine AllReady.cons rfl (fun K hK => ?_) ?_
          · skip
            obtain ⟨v2, wb, hr, hC2, hF2, r0, r1, r2⟩ := CR.run HC.out q.i hl 70
            obtain ⟨A2, c2, hv2⟩ := hC2.slice
            obtain ⟨n2, hn2⟩ : ∃ n2, n2 = (⟨q.i :: c.ins, c.bh⟩ : CdM).ins.length := ⟨_, rfl⟩
            rw [← hn2] at hv2
            clear hn2
            subst hv2
            have HC2 := Lib.hid hC2
            have HF2 := Lib.hid (HF.out.trans hF2)
            refine op_append (.tmp 13) (.tmp 15) 70 rfl _ _ _ wb rfl rfl hr ?_
            refine hK _ _ ?_
            clear hK K hr hC2 hF2 k0 k1 kl kf
            refine wpAny_take (i := 8) (v := ?_) rfl (by kernel_rfl) (by kernel_rfl) (by kernel_rfl) (fun _ _ _ h => h) (Or.inl ⟨by rfl, ?_⟩) ?_
            rotate_left 1
            · intro w
              (go_simp) <;> (with_reducible rfl)
            refine wpAny_take (i := 9) (v := ?_) rfl (by kernel_rfl) (by kernel_rfl) (by kernel_rfl) (fun _ _ _ h => h) (Or.inl ⟨by rfl, ?_⟩) ?_
            rotate_left 1
            · intro w
              (go_simp) <;> (with_reducible rfl)
            refine wpAny_ready (rs := [10]) (by kernel_rfl) (by simp) ?_
            refine AllReady.cons rfl (fun K hK => ?_) ?_
            · skip
              go_simp
              refine hK _ _ ?_
              clear hK K
              refine wpAny_done (by kernel_rfl) ?_ _
              go_wp2_with fail
              go_ret
              rw [HV.out]
              exact ⟨rfl, _, HC2.out, HF2.out⟩
            exact AllReady.nil
          exact AllReady.nil
        exact AllReady.nil
      exact AllReady.nil
    exact AllReady.nil
end Go.Proofs.Ytcageojoafkojaa.Ju

