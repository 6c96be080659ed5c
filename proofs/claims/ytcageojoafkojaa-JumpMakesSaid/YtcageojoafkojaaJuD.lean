/- Code that is being made: the small steps. -/
import Derived.Test.YtcageojoafkojaaJuC
namespace Go.Proofs.Ytcageojoafkojaa.Ju
open Go.RowKit Go.Maps Go.WideMaps Go.WideElems Go.ChangeMaps
theorem infoIn : (Try.prog.info? 122).map (fun i => (i.zero, i.size, i.bytes)) = some (some (.agg #[.int .u16 0, .int .u8 0, .int .u8 0, .int .u32 0]), 4, 8) := by kernel_rfl
set_option maxRecDepth 100000 in
theorem CR.run {w : World} {p m B : Nat} {v : Value} {c : CdM} (h : CR w p m B v c) (i : Ins) (hl : c.ins.length ≤ 5000) (ty : TypeId) :
    ∃ v' wb, (Builtin.append_ #[70, 70] ty #[v, .slice (some ⟨w.heap.size, 0, none⟩) 1 1]).run Try.prog (w.alloc (.cells #[.int .u16 i.c, .int .u8 i.t, .int .u8 i.f, .int .u32 i.k] 122)) = .ok v' wb ∧
      CR (wb.setCell ⟨p, 0, none⟩ v') p m B v' ⟨i :: c.ins, c.bh⟩ ∧ Fr p m v v' w (wb.setCell ⟨p, 0, none⟩ v') ∧ wb.cell? ⟨p, 0, none⟩ = some v ∧ wb.frozen? ⟨p, 0, none⟩ = false ∧ p < wb.heap.size := by
  obtain ⟨i0, hi, hz0, hz1, hz2⟩ := info_parts infoIn
  have hb := oneb w (.cells #[.int .u16 i.c, .int .u8 i.t, .int .u8 i.f, .int .u32 i.k] 122)
  have hk := h.below hb
  have hB : Bk (w.alloc (.cells #[.int .u16 i.c, .int .u8 i.t, .int .u8 i.f, .int .u32 i.k] 122)) w.heap.size 122 i.cells := Bk.new w _ _ rfl
  obtain ⟨v', wb, hr, ho, hg, _, hat⟩ := run_append_own_at (P := Try.prog) (w.alloc (.cells #[.int .u16 i.c, .int .u8 i.t, .int .u8 i.f, .int .u32 i.k] 122)) B 70 ty 122 i0 _ 4 8 Try.underlying70 hi hz0 hz1 hz2 rfl (by decide) v c.ins.length _ hk.row ⟨w.heap.size, 0, none⟩ 1 1 i.cells (by rfl) (fun j u hu => by rw [addr_at, Nat.zero_add]; exact hB.cell j hu) (cells_one i) (by unfold maxLen; omega) (by omega) hk.le
  have hge := own_ge hk.row
  have hle := hk.le
  have hbox : Bk wb p 133 [v, .map (some m)] := hk.box.grown hg (fun e => by have := (hge p e.symm).1; have := h.pB; omega)
  have hmp : NMap wb 3 m (c.bh.map bhI) := hk.mp.grown hg (fun e => by have := (hge m e.symm).1; have := h.mB; omega)
  have hs := only_set wb p 0 v'
  have hpB := h.pB
  have hmB := h.mB
  have hge2 := own_ge ho
  refine ⟨v', wb, hr, ⟨hbox.set 0 v', ?_, hmp.grown hs (fun e => by injection e with e; exact h.pm e.symm), h.pB, h.mB, h.pm, Nat.le_trans hle (Nat.le_trans hg.size hs.size)⟩, ?_, hbox.cell 0 rfl, hbox.fz 0, hbox.lt⟩
  · have := own_keep ho hs (fun b hb e => by have := (hge2 b hb).1; omega)
    simpa using this
  · refine ((Fr.of_below p m v hb).trans ?_).trans (Fr.grown v' hs (Or.inl rfl))
    exact ⟨hg.os, hg.tape, hg.output, hg.size, fun k hk1 _ _ h3 => hg.block k hk1 (fun e => h3 e), hat.imp id fun e g hg2 => by rw [e] at hg2; injection hg2 with hg2; omega⟩
theorem far_b (w : World) (p m B : Nat) (v : Value) (c : CdM) (n : Int) (b : Nat) (h : CR w p m B v c) (h1 : -9223372036854775808 ≤ n) (h2 : n ≤ 9223372036854775807) (hb : lk n c.bh = some b) (hbl : b ≤ c.ins.length) (hl : c.ins.length ≤ 5000) :
    Calls Try.prog 118 #[.pointer (some ⟨p, 0, none⟩), .int .i64 n] w fun e w' => e = .returned (.int .i64 ((c.ins.length - b : Nat) : Int)) ∧ Below w.heap.size w w' :=
  (far_any w p m B v c n b h h1 h2 hb hbl hl).mono fun _ _ ⟨he, _, hw⟩ => ⟨he, by rw [hw]; exact below_drewN (Below.refl _ _) _⟩
/-- What a step answers: an error's number; code. -/
def StepPost (p m B : Nat) (v : Value) (w : World) (en : Int) (c2 : CdM) (e : Ending) (w' : World) : Prop := e = .returned (.int .i64 en) ∧ ∃ v2, CR w' p m B v2 c2 ∧ Fr p m v v2 w w'
set_option maxHeartbeats 8000000 in
set_option maxRecDepth 100000 in
theorem skip_any (w : World) (p m B : Nat) (v : Value) (c : CdM) (n : Int) (b : Nat) (h : CR w p m B v c) (h1 : -9223372036854775808 ≤ n) (h2 : n ≤ 9223372036854775807) (hb : lk n c.bh = some b) (hbl : b ≤ c.ins.length) (hl : c.ins.length ≤ 5000) :
    Calls Try.prog 101 #[.pointer (some ⟨p, 0, none⟩), .int .i64 n] w fun e w' => e = .returned (.tuple #[]) ∧ ∃ v2, CR w' p m B v2 ⟨skipI (c.ins.length - b) :: c.ins, c.bh⟩ ∧ Fr p m v v2 w w' := by
  have HC := Lib.hid h.drew
  have HF := Lib.hid (Fr.of_below p m v (Below.refl w.heap.size w).drew)
  have HFar := Lib.hid (fun W (h : CR W p m B v c) => far_b W p m B v c n b h h1 h2 hb hbl hl)
  obtain ⟨d, hd⟩ : ∃ d, d = c.ins.length - b := ⟨_, rfl⟩
  have HSk := Lib.hid (fun W => skip_of (d : Int) W)
  rw [← hd] at HFar ⊢
  have hd5 : d ≤ 5000 := by omega
  have e1 : IntKind.u32.wrap (d : Int) = (d : Int) := by rw [IntKind.wrap_u32]; omega
  obtain ⟨A, cp, rfl⟩ := h.slice
  clear h hb hbl hd
  obtain ⟨k0, k1, kl, kf⟩ := HC.out.cells
  go_enter Try.func101, Try.ntmps101
  refine wp_region_any (by kernel_rfl) ?_
  try (change wpAny _ _ _ _ _ _ _ (World.drew _))
  refine wpAny_take (i := 0) (v := ?_) rfl (by kernel_rfl) (by kernel_rfl) (by kernel_rfl) (fun _ _ _ h => h) (Or.inl ⟨by rfl, ?_⟩) ?_
  rotate_left 1
  · intro w
    (go_simp) <;> (with_reducible rfl)
  refine wpAny_take (i := 1) (v := ?_) rfl (by kernel_rfl) (by kernel_rfl) (by kernel_rfl) (fun _ _ _ h => h) (Or.inl ⟨by rfl, ?_⟩) ?_
  rotate_left 1
  · intro w
    (go_simp) <;> (with_reducible rfl)
  refine wpAny_take (i := 2) (v := ?_) rfl (by kernel_rfl) (by kernel_rfl) (by kernel_rfl) (fun _ _ _ h => h) (Or.inl ⟨by rfl, ?_⟩) ?_
  rotate_left 1
  · intro w
    (go_simp) <;> (with_reducible rfl)
  refine wpAny_take (i := 3) (v := ?_) rfl (by kernel_rfl) (by kernel_rfl) (by kernel_rfl) (fun _ _ _ h => h) (Or.inl ⟨by rfl, ?_⟩) ?_
  rotate_left 1
  · intro w
    (go_simp) <;> (with_reducible rfl)
  refine wpAny_take (i := 5) (v := ?_) rfl (by kernel_rfl) (by kernel_rfl) (by kernel_rfl) (fun _ _ _ h => h) (Or.inl ⟨by rfl, ?_⟩) ?_
  rotate_left 1
  · intro w
    (go_simp) <;> (with_reducible rfl)
  refine wpAny_take (i := 6) (v := ?_) rfl (by kernel_rfl) (by kernel_rfl) (by kernel_rfl) (fun _ _ _ h => h) (Or.inl ⟨by rfl, ?_⟩) ?_
  rotate_left 1
  · intro w
    (go_simp) <;> (with_reducible rfl)
  refine wpAny_ready (rs := [4, 7]) (by kernel_rfl) (by simp) ?_
  refine AllReady.cons rfl (fun K hK => ?_) ?_
  · skip
    go_simp
    refine hK _ _ ?_
    clear hK K
    refine wpAny_ready (rs := [7]) (by kernel_rfl) (by simp) ?_
    refine AllReady.cons rfl (fun K hK => ?_) ?_
    · skip
      go_simp
      refine (HFar.out _ HC.out).mono ?_
      rintro e w1 ⟨rfl, hb1⟩
      have HC1 := Lib.hid (HC.out.below hb1)
      have HF1 := Lib.hid (HF.out.trans (Fr.of_below _ _ _ hb1))
      clear k0 k1 kl kf hb1 HC HF
      have HC := HC1
      have HF := HF1
      clear HC1 HF1
      obtain ⟨k0, k1, kl, kf⟩ := HC.out.cells
      refine hK _ _ ?_
      clear hK K
      refine wpAny_ready (rs := [8]) (by kernel_rfl) (by simp) ?_
      refine AllReady.cons rfl (fun K hK => ?_) ?_
      · skip
        go_simp
        refine hK _ _ ?_
        clear hK K
        refine wpAny_ready (rs := [9]) (by kernel_rfl) (by simp) ?_
        refine AllReady.cons rfl (fun K hK => ?_) ?_
        · skip
          go_simp
          refine (HSk.out _).mono ?_
          rintro e w1 ⟨rfl, hb1⟩
          have HC1 := Lib.hid (HC.out.below hb1)
          have HF1 := Lib.hid (HF.out.trans (Fr.of_below _ _ _ hb1))
          clear k0 k1 kl kf hb1 HC HF
          have HC := HC1
          have HF := HF1
          clear HC1 HF1
          obtain ⟨k0, k1, kl, kf⟩ := HC.out.cells
          refine hK _ _ ?_
          clear hK K
          refine wpAny_ready (rs := [10]) (by kernel_rfl) (by simp) ?_
          refine AllReady.cons rfl (fun K hK => ?_) ?_
          · skip
            go_simp
            refine hK _ _ ?_
            clear hK K
            refine wpAny_ready (rs := [11]) (by kernel_rfl) (by simp) ?_
            refine AllReady.cons rfl (fun K hK => ?_) ?_
            · skip
              obtain ⟨v2, wb, hr, hC2, hF2, r0, r1, r2⟩ := CR.run HC.out (skipI d) hl 70
              obtain ⟨A2, c2, hv2⟩ := hC2.slice
              obtain ⟨n2, hn2⟩ : ∃ n2, n2 = (⟨(skipI d) :: c.ins, c.bh⟩ : CdM).ins.length := ⟨_, rfl⟩
              rw [← hn2] at hv2
              clear hn2
              subst hv2
              have HC2 := Lib.hid hC2
              have HF2 := Lib.hid (HF.out.trans hF2)
              refine op_append (.tmp 8) (.tmp 14) 70 rfl _ _ _ wb rfl rfl hr ?_
              refine hK _ _ ?_
              clear hK K hr hC2 hF2 k0 k1 kl kf
              refine wpAny_take (i := 12) (v := ?_) rfl (by kernel_rfl) (by kernel_rfl) (by kernel_rfl) (fun _ _ _ h => h) (Or.inl ⟨by rfl, ?_⟩) ?_
              rotate_left 1
              · intro w
                (go_simp) <;> (with_reducible rfl)
              refine wpAny_take (i := 13) (v := ?_) rfl (by kernel_rfl) (by kernel_rfl) (by kernel_rfl) (fun _ _ _ h => h) (Or.inl ⟨by rfl, ?_⟩) ?_
              rotate_left 1
              · intro w
                (go_simp) <;> (with_reducible rfl)
              refine wpAny_ready (rs := [14]) (by kernel_rfl) (by simp) ?_
              refine AllReady.cons rfl (fun K hK => ?_) ?_
              · skip
                go_simp
                refine hK _ _ ?_
                clear hK K
                refine wpAny_done (by kernel_rfl) ?_ _
                go_wp2_with fail
                go_end0
                exact ⟨rfl, _, HC2.out, HF2.out⟩
              exact AllReady.nil
            exact AllReady.nil
          exact AllReady.nil
        exact AllReady.nil
      exact AllReady.nil
    exact AllReady.nil
  refine AllReady.cons rfl (fun K hK => ?_) ?_
  · skip
    go_simp
    refine (HFar.out _ HC.out).mono ?_
    rintro e w1 ⟨rfl, hb1⟩
    have HC1 := Lib.hid (HC.out.below hb1)
    have HF1 := Lib.hid (HF.out.trans (Fr.of_below _ _ _ hb1))
    clear k0 k1 kl kf hb1 HC HF
    have HC := HC1
    have HF := HF1
    clear HC1 HF1
    obtain ⟨k0, k1, kl, kf⟩ := HC.out.cells
    refine hK _ _ ?_
    clear hK K
    refine wpAny_ready (rs := [4, 8]) (by kernel_rfl) (by simp) ?_
    refine AllReady.cons rfl (fun K hK => ?_) ?_
    · skip
      go_simp
      refine hK _ _ ?_
      clear hK K
      refine wpAny_ready (rs := [8]) (by kernel_rfl) (by simp) ?_
      refine AllReady.cons rfl (fun K hK => ?_) ?_
      · skip
        go_simp
        refine hK _ _ ?_
        clear hK K
        refine wpAny_ready (rs := [9]) (by kernel_rfl) (by simp) ?_
        refine AllReady.cons rfl (fun K hK => ?_) ?_
        · skip
          go_simp
          refine (HSk.out _).mono ?_
          rintro e w1 ⟨rfl, hb1⟩
          have HC1 := Lib.hid (HC.out.below hb1)
          have HF1 := Lib.hid (HF.out.trans (Fr.of_below _ _ _ hb1))
          clear k0 k1 kl kf hb1 HC HF
          have HC := HC1
          have HF := HF1
          clear HC1 HF1
          obtain ⟨k0, k1, kl, kf⟩ := HC.out.cells
          refine hK _ _ ?_
          clear hK K
          refine wpAny_ready (rs := [10]) (by kernel_rfl) (by simp) ?_
          refine AllReady.cons rfl (fun K hK => ?_) ?_
          · skip
            go_simp
            refine hK _ _ ?_
            clear hK K
            refine wpAny_ready (rs := [11]) (by kernel_rfl) (by simp) ?_
            refine AllReady.cons rfl (fun K hK => ?_) ?_
            · skip
              obtain ⟨v2, wb, hr, hC2, hF2, r0, r1, r2⟩ := CR.run HC.out (skipI d) hl 70
              obtain ⟨A2, c2, hv2⟩ := hC2.slice
              obtain ⟨n2, hn2⟩ : ∃ n2, n2 = (⟨(skipI d) :: c.ins, c.bh⟩ : CdM).ins.length := ⟨_, rfl⟩
              rw [← hn2] at hv2
              clear hn2
              subst hv2
              have HC2 := Lib.hid hC2
              have HF2 := Lib.hid (HF.out.trans hF2)
              refine op_append (.tmp 8) (.tmp 14) 70 rfl _ _ _ wb rfl rfl hr ?_
              refine hK _ _ ?_
              clear hK K hr hC2 hF2 k0 k1 kl kf
              refine wpAny_take (i := 12) (v := ?_) rfl (by kernel_rfl) (by kernel_rfl) (by kernel_rfl) (fun _ _ _ h => h) (Or.inl ⟨by rfl, ?_⟩) ?_
              rotate_left 1
              · intro w
                (go_simp) <;> (with_reducible rfl)
              refine wpAny_take (i := 13) (v := ?_) rfl (by kernel_rfl) (by kernel_rfl) (by kernel_rfl) (fun _ _ _ h => h) (Or.inl ⟨by rfl, ?_⟩) ?_
              rotate_left 1
              · intro w
                (go_simp) <;> (with_reducible rfl)
              refine wpAny_ready (rs := [14]) (by kernel_rfl) (by simp) ?_
              refine AllReady.cons rfl (fun K hK => ?_) ?_
              · skip
                go_simp
                refine hK _ _ ?_
                clear hK K
                refine wpAny_done (by kernel_rfl) ?_ _
                go_wp2_with fail
                go_end0
                exact ⟨rfl, _, HC2.out, HF2.out⟩
              exact AllReady.nil
            exact AllReady.nil
          exact AllReady.nil
        exact AllReady.nil
      exact AllReady.nil
    refine AllReady.cons rfl (fun K hK => ?_) ?_
    · skip
      go_simp
      refine hK _ _ ?_
      clear hK K
      refine wpAny_ready (rs := [4, 9]) (by kernel_rfl) (by simp) ?_
      refine AllReady.cons rfl (fun K hK => ?_) ?_
      · skip
        go_simp
        refine hK _ _ ?_
        clear hK K
        refine wpAny_ready (rs := [9]) (by kernel_rfl) (by simp) ?_
        refine AllReady.cons rfl (fun K hK => ?_) ?_
        · skip
          go_simp
          refine (HSk.out _).mono ?_
          rintro e w1 ⟨rfl, hb1⟩
          have HC1 := Lib.hid (HC.out.below hb1)
          have HF1 := Lib.hid (HF.out.trans (Fr.of_below _ _ _ hb1))
          clear k0 k1 kl kf hb1 HC HF
          have HC := HC1
          have HF := HF1
          clear HC1 HF1
          obtain ⟨k0, k1, kl, kf⟩ := HC.out.cells
          refine hK _ _ ?_
          clear hK K
          refine wpAny_ready (rs := [10]) (by kernel_rfl) (by simp) ?_
          refine AllReady.cons rfl (fun K hK => ?_) ?_
          · skip
            go_simp
            refine hK _ _ ?_
            clear hK K
            refine wpAny_ready (rs := [11]) (by kernel_rfl) (by simp) ?_
            refine AllReady.cons rfl (fun K hK => ?_) ?_
            · skip
              obtain ⟨v2, wb, hr, hC2, hF2, r0, r1, r2⟩ := CR.run HC.out (skipI d) hl 70
              obtain ⟨A2, c2, hv2⟩ := hC2.slice
              obtain ⟨n2, hn2⟩ : ∃ n2, n2 = (⟨(skipI d) :: c.ins, c.bh⟩ : CdM).ins.length := ⟨_, rfl⟩
              rw [← hn2] at hv2
              clear hn2
              subst hv2
              have HC2 := Lib.hid hC2
              have HF2 := Lib.hid (HF.out.trans hF2)
              refine op_append (.tmp 8) (.tmp 14) 70 rfl _ _ _ wb rfl rfl hr ?_
              refine hK _ _ ?_
              clear hK K hr hC2 hF2 k0 k1 kl kf
              refine wpAny_take (i := 12) (v := ?_) rfl (by kernel_rfl) (by kernel_rfl) (by kernel_rfl) (fun _ _ _ h => h) (Or.inl ⟨by rfl, ?_⟩) ?_
              rotate_left 1
              · intro w
                (go_simp) <;> (with_reducible rfl)
              refine wpAny_take (i := 13) (v := ?_) rfl (by kernel_rfl) (by kernel_rfl) (by kernel_rfl) (fun _ _ _ h => h) (Or.inl ⟨by rfl, ?_⟩) ?_
              rotate_left 1
              · intro w
                (go_simp) <;> (with_reducible rfl)
              refine wpAny_ready (rs := [14]) (by kernel_rfl) (by simp) ?_
              refine AllReady.cons rfl (fun K hK => ?_) ?_
              · skip
                go_simp
                refine hK _ _ ?_
                clear hK K
                refine wpAny_done (by kernel_rfl) ?_ _
                go_wp2_with fail
                go_end0
                exact ⟨rfl, _, HC2.out, HF2.out⟩
              exact AllReady.nil
            exact AllReady.nil
          exact AllReady.nil
        exact AllReady.nil
      refine AllReady.cons rfl (fun K hK => ?_) ?_
      · skip
        go_simp
        refine (HSk.out _).mono ?_
        rintro e w1 ⟨rfl, hb1⟩
        have HC1 := Lib.hid (HC.out.below hb1)
        have HF1 := Lib.hid (HF.out.trans (Fr.of_below _ _ _ hb1))
        clear k0 k1 kl kf hb1 HC HF
        have HC := HC1
        have HF := HF1
        clear HC1 HF1
        obtain ⟨k0, k1, kl, kf⟩ := HC.out.cells
        refine hK _ _ ?_
        clear hK K
        refine wpAny_ready (rs := [4, 10]) (by kernel_rfl) (by simp) ?_
        refine AllReady.cons rfl (fun K hK => ?_) ?_
        · skip
          go_simp
          refine hK _ _ ?_
          clear hK K
          refine wpAny_ready (rs := [10]) (by kernel_rfl) (by simp) ?_
          refine AllReady.cons rfl (fun K hK => ?_) ?_
          · skip
            go_simp
            refine hK _ _ ?_
            clear hK K
            refine wpAny_ready (rs := [11]) (by kernel_rfl) (by simp) ?_
            refine AllReady.cons rfl (fun K hK => ?_) ?_
            · skip
              obtain ⟨v2, wb, hr, hC2, hF2, r0, r1, r2⟩ := CR.run HC.out (skipI d) hl 70
              obtain ⟨A2, c2, hv2⟩ := hC2.slice
              obtain ⟨n2, hn2⟩ : ∃ n2, n2 = (⟨(skipI d) :: c.ins, c.bh⟩ : CdM).ins.length := ⟨_, rfl⟩
              rw [← hn2] at hv2
              clear hn2
              subst hv2
              have HC2 := Lib.hid hC2
              have HF2 := Lib.hid (HF.out.trans hF2)
              refine op_append (.tmp 8) (.tmp 14) 70 rfl _ _ _ wb rfl rfl hr ?_
              refine hK _ _ ?_
              clear hK K hr hC2 hF2 k0 k1 kl kf
              refine wpAny_take (i := 12) (v := ?_) rfl (by kernel_rfl) (by kernel_rfl) (by kernel_rfl) (fun _ _ _ h => h) (Or.inl ⟨by rfl, ?_⟩) ?_
              rotate_left 1
              · intro w
                (go_simp) <;> (with_reducible rfl)
              refine wpAny_take (i := 13) (v := ?_) rfl (by kernel_rfl) (by kernel_rfl) (by kernel_rfl) (fun _ _ _ h => h) (Or.inl ⟨by rfl, ?_⟩) ?_
              rotate_left 1
              · intro w
                (go_simp) <;> (with_reducible rfl)
              refine wpAny_ready (rs := [14]) (by kernel_rfl) (by simp) ?_
              refine AllReady.cons rfl (fun K hK => ?_) ?_
              · skip
                go_simp
                refine hK _ _ ?_
                clear hK K
                refine wpAny_done (by kernel_rfl) ?_ _
                go_wp2_with fail
                go_end0
                exact ⟨rfl, _, HC2.out, HF2.out⟩
              exact AllReady.nil
            exact AllReady.nil
          exact AllReady.nil
        refine AllReady.cons rfl (fun K hK => ?_) ?_
        · skip
          go_simp
          refine hK _ _ ?_
          clear hK K
          refine wpAny_ready (rs := [4]) (by kernel_rfl) (by simp) ?_
          refine AllReady.cons rfl (fun K hK => ?_) ?_
          · skip
            go_simp
            refine hK _ _ ?_
            clear hK K
            refine wpAny_ready (rs := [11]) (by kernel_rfl) (by simp) ?_
            refine AllReady.cons rfl (fun K hK => ?_) ?_
            · skip
              obtain ⟨v2, wb, hr, hC2, hF2, r0, r1, r2⟩ := CR.run HC.out (skipI d) hl 70
              obtain ⟨A2, c2, hv2⟩ := hC2.slice
              obtain ⟨n2, hn2⟩ : ∃ n2, n2 = (⟨(skipI d) :: c.ins, c.bh⟩ : CdM).ins.length := ⟨_, rfl⟩
              rw [← hn2] at hv2
              clear hn2
              subst hv2
              have HC2 := Lib.hid hC2
              have HF2 := Lib.hid (HF.out.trans hF2)
              refine op_append (.tmp 8) (.tmp 14) 70 rfl _ _ _ wb rfl rfl hr ?_
              refine hK _ _ ?_
              clear hK K hr hC2 hF2 k0 k1 kl kf
              refine wpAny_take (i := 12) (v := ?_) rfl (by kernel_rfl) (by kernel_rfl) (by kernel_rfl) (fun _ _ _ h => h) (Or.inl ⟨by rfl, ?_⟩) ?_
              rotate_left 1
              · intro w
                (go_simp) <;> (with_reducible rfl)
              refine wpAny_take (i := 13) (v := ?_) rfl (by kernel_rfl) (by kernel_rfl) (by kernel_rfl) (fun _ _ _ h => h) (Or.inl ⟨by rfl, ?_⟩) ?_
              rotate_left 1
              · intro w
                (go_simp) <;> (with_reducible rfl)
              refine wpAny_ready (rs := [14]) (by kernel_rfl) (by simp) ?_
              refine AllReady.cons rfl (fun K hK => ?_) ?_
              · skip
                go_simp
                refine hK _ _ ?_
                clear hK K
                refine wpAny_done (by kernel_rfl) ?_ _
                go_wp2_with fail
                go_end0
                exact ⟨rfl, _, HC2.out, HF2.out⟩
              exact AllReady.nil
            exact AllReady.nil
          exact AllReady.nil
        exact AllReady.nil
      exact AllReady.nil
    exact AllReady.nil
  exact AllReady.nil
end Go.Proofs.Ytcageojoafkojaa.Ju

