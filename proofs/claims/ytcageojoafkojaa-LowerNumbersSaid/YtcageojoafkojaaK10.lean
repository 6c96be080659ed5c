/- The builder; nil ones; the opening fact. -/
import Derived.Test.YtcageojoafkojaaK09
import Derived.Deep.Slices
import Derived.ChangeArms
import Derived.ChangeSlices
import Derived.DataReads
import Derived.ProofKit
import Derived.ChangeOld
import Derived.SliceStrings
import Derived.OpenShut
namespace Go.Proofs.Ytcageojoafkojaa.Ju
open Go.RowKit Go.Maps Go.WideMaps Go.WideElems Go.ChangeMaps
/-- A builder in block p, its parts in blocks from B on. -/
structure BR (w0 w : World) (p B : Nat) (v : Value) (k : Int) (s : List PtM) : Prop where
  box : Bk w p 117 [.int .i64 k, v]
  row : w.ownsRow B 125 7 v s.length (s.flatMap PtM.cells)
  pB : p < B
  le : B ≤ w.heap.size
  bel : Below w0.heap.size w0 w
  p0 : w0.heap.size ≤ p
section
variable {w0 w w' : World} {p B : Nat} {v : Value} {k : Int} {s : List PtM}
theorem BR.below (h : BR w0 w p B v k s) (hb : Below w.heap.size w w') : BR w0 w' p B v k s := ⟨h.box.kept hb, own_keepN h.row hb, h.pB, Nat.le_trans h.le hb.size, h.bel.trans (hb.mono h.bel.size), h.p0⟩
theorem BR.slice (h : BR w0 w p B v k s) : ∃ A cp, v = .slice A s.length cp := by obtain ⟨A, cp, e, _⟩ := own_typed h.row; exact ⟨A, cp, e⟩
theorem BR.named (h : BR w0 w p B v k s) (k' : Int) : BR w0 (w.setCell ⟨p, 0, none⟩ (.int .i64 k')) p B v k' s := by
  have hs := only_set w p 0 (.int .i64 k')
  have := h.p0
  exact ⟨h.box.set 0 _, own_keep h.row hs (fun b hb e => by have := (own_ge h.row b hb).1; have := h.pB; omega), h.pB, Nat.le_trans h.le hs.size, h.bel.grown hs h.bel.size (fun r e => by injection e with e; omega), h.p0⟩
set_option maxRecDepth 100000 in
theorem BR.run (h : BR w0 w p B v k s) (q : PtM) (hl : s.length ≤ 5000) (ty : TypeId) :
    ∃ v' wb, (Builtin.append_ #[65, 65] ty #[v, .slice (some ⟨w.heap.size, 0, none⟩) 1 1]).run Try.prog (w.alloc (.cells #[.int .u8 q.kd, .int .i64 q.tQ, .int .i64 q.el, .int .u16 q.i.c, .int .u8 q.i.t, .int .u8 q.i.f, .int .u32 q.i.k] 125)) = .ok v' wb ∧
      BR w0 (wb.setCell ⟨p, 1, none⟩ v') p B v' k (s ++ [q]) ∧ wb.cell? ⟨p, 1, none⟩ = some v ∧ wb.frozen? ⟨p, 1, none⟩ = false ∧ p < wb.heap.size := by
  obtain ⟨i0, hi, hz0, hz1, hz2⟩ := info_parts infoPart
  have hb := oneb w (.cells #[.int .u8 q.kd, .int .i64 q.tQ, .int .i64 q.el, .int .u16 q.i.c, .int .u8 q.i.t, .int .u8 q.i.f, .int .u32 q.i.k] 125)
  have hk := h.below hb
  have hB : Bk (w.alloc (.cells #[.int .u8 q.kd, .int .i64 q.tQ, .int .i64 q.el, .int .u16 q.i.c, .int .u8 q.i.t, .int .u8 q.i.f, .int .u32 q.i.k] 125)) w.heap.size 125 q.cells := Bk.new w _ _ rfl
  obtain ⟨v', wb, hr, ho, hg, _, hat⟩ := run_append_own_at (P := Try.prog) (w.alloc (.cells #[.int .u8 q.kd, .int .i64 q.tQ, .int .i64 q.el, .int .u16 q.i.c, .int .u8 q.i.t, .int .u8 q.i.f, .int .u32 q.i.k] 125)) B 65 ty 125 i0 _ 7 32 Try.underlying65 hi hz0 hz1 hz2 rfl (by decide) v s.length _ hk.row ⟨w.heap.size, 0, none⟩ 1 1 q.cells (by rfl) (fun j u hu => by rw [addr_at, Nat.zero_add]; exact hB.cell j hu) (pt_one q) (by unfold maxLen; omega) (by omega) hk.le
  have hge := own_ge hk.row
  have hp := h.pB
  have hp0 := h.p0
  have hbox : Bk wb p 117 [.int .i64 k, v] := hk.box.grown hg (fun e => by have := (hge p e.symm).1; omega)
  have hs := only_set wb p 1 v'
  refine ⟨v', wb, hr, ⟨hbox.set 1 v', ?_, hp, Nat.le_trans hk.le (Nat.le_trans hg.size hs.size), ?_, hp0⟩, hbox.cell 1 rfl, hbox.fz 1, hbox.lt⟩
  · have := own_keep ho hs (fun b hb e => by have := (own_ge ho b hb).1; omega)
    simpa using this
  · exact (hk.bel.grown hg hk.bel.size (fun r e => by have := (hge r e).1; omega)).grown hs (Nat.le_trans hk.bel.size hg.size) (fun r e => by injection e with e; omega)
end
set_option maxHeartbeats 8000000 in
set_option maxRecDepth 100000 in
theorem badd_any (w0 w : World) (p B : Nat) (v : Value) (k : Int) (s : List PtM) (q : PtM) (h : BR w0 w p B v k s) (hl : s.length ≤ 5000) :
    Calls Try.prog 70 #[.pointer (some ⟨p, 0, none⟩), .agg #[.int .u8 q.kd, .int .i64 q.tQ, .int .i64 q.el, .int .u16 q.i.c, .int .u8 q.i.t, .int .u8 q.i.f, .int .u32 q.i.k]] w fun e w' => e = .returned (.tuple #[]) ∧ ∃ v2, BR w0 w' p B v2 k (s ++ [q]) := by
  obtain ⟨W, hW⟩ : ∃ W, W = w.alloc (.cells #[.int .u8 q.kd, .int .i64 q.tQ, .int .i64 q.el, .int .u16 q.i.c, .int .u8 q.i.t, .int .u8 q.i.f, .int .u32 q.i.k] 125) := ⟨_, rfl⟩
  have hbx : Bk W w.heap.size 125 q.cells := by rw [hW]; exact Bk.new w _ _ rfl
  have hb1 : Below w.heap.size w W := by rw [hW]; exact oneb w _
  have HC := Lib.hid (h.below hb1)
  have HBx := Lib.hid hbx
  have hptr : ∀ w : World, (binOp .neq 178 (.pointer (some ⟨p, 0, none⟩)) (.pointer none)).run Try.prog w = .ok (.bool true) w := fun w => by kernel_rfl
  go_enter Try.func70, Try.ntmps70
  go_upto_region 1 with fail
  rw [← hW]
  clear hW hb1 hbx h
  generalize w.heap.size = xb at *
  have y0 := HBx.out.cell 0 rfl
  have y1 := HBx.out.cell 1 rfl
  have y2 := HBx.out.cell 2 rfl
  have y3 := HBx.out.cell 3 rfl
  have y4 := HBx.out.cell 4 rfl
  have y5 := HBx.out.cell 5 rfl
  have y6 := HBx.out.cell 6 rfl
  have yl := HBx.out.lt
  have HD := Lib.hid (HC.out.below (Below.refl W.heap.size W).drew)
  clear HC
  have HC := HD
  clear HD
  obtain ⟨A, cp, rfl⟩ := HC.out.slice
  have k0 := HC.out.box.cell 1 rfl
  have kl := HC.out.box.lt
  have kl2 : p < W.heap.size := kl
  have k02 : W.cell? ⟨p, 1, none⟩ = some (.slice A s.length cp) := k0
  go_wp2_with fail
  refine wp_region_any (by kernel_rfl) ?_
  try (change wpAny _ _ _ _ _ _ _ (World.drew _))
  refine wpAny_take (i := 0) (v := ?_) rfl (by kernel_rfl) (by kernel_rfl) (by kernel_rfl) (fun _ _ _ h => h) (Or.inl ⟨by rfl, ?_⟩) ?_
  rotate_left 1
  · intro w
    (go_simp) <;> (with_reducible rfl)
  refine wpAny_take (i := 1) (v := ?_) rfl (by kernel_rfl) (by kernel_rfl) (by kernel_rfl) (fun _ _ _ h => h) (Or.inl ⟨by rfl, ?_⟩) ?_
  rotate_left 1
  · intro w
    (go_simp) <;> (with_reducible rfl)
  refine wpAny_take (i := 2) (v := ?_) rfl (by kernel_rfl) (by kernel_rfl) (by kernel_rfl) (fun _ _ _ h => h) (Or.inl ⟨by rfl, ?_⟩) ?_
  rotate_left 1
  · intro w
    (go_simp) <;> (with_reducible rfl)
  refine wpAny_take (i := 3) (v := ?_) rfl (by kernel_rfl) (by kernel_rfl) (by kernel_rfl) (fun _ _ _ h => h) (Or.inl ⟨by rfl, ?_⟩) ?_
  rotate_left 1
  · intro w
    (go_simp) <;> (with_reducible rfl)
  refine wpAny_ready (rs := [4, 5]) (by kernel_rfl) (by simp) ?_
  refine AllReady.cons rfl (fun K hK => ?_) ?_
  · skip
    go_simp
    refine hK _ _ ?_
    clear hK K
    refine wpAny_ready (rs := [5]) (by kernel_rfl) (by simp) ?_
    refine AllReady.cons rfl (fun K hK => ?_) ?_
    · skip
      go_simp
      refine hK _ _ ?_
      clear hK K
      refine wpAny_ready (rs := [6]) (by kernel_rfl) (by simp) ?_
      refine AllReady.cons rfl (fun K hK => ?_) ?_
      · skip
        go_simp
        refine hK _ _ ?_
        clear hK K
        refine wpAny_ready (rs := [7]) (by kernel_rfl) (by simp) ?_
        refine AllReady.cons rfl (fun K hK => ?_) ?_
        · skip
          obtain ⟨v2, wb, hr, hC2, r0, r1, r2⟩ := BR.run HC.out q hl 65
          obtain ⟨A2, c2, hv2⟩ := hC2.slice
          obtain ⟨n2, hn2⟩ : ∃ n2, n2 = (s ++ [q]).length := ⟨_, rfl⟩
          rw [← hn2] at hv2
          clear hn2
          subst hv2
          have HC2 := Lib.hid hC2
          refine op_append (.tmp 10) (.tmp 12) 65 rfl _ _ _ wb rfl rfl hr ?_
          refine hK _ _ ?_
          clear hK K hr hC2 k0 kl kl2 k02
          refine wpAny_take (i := 8) (v := ?_) rfl (by kernel_rfl) (by kernel_rfl) (by kernel_rfl) (fun _ _ _ h => h) (Or.inl ⟨by rfl, ?_⟩) ?_
          rotate_left 1
          · intro w
            (go_simp) <;> (with_reducible rfl)
          refine wpAny_take (i := 9) (v := ?_) rfl (by kernel_rfl) (by kernel_rfl) (by kernel_rfl) (fun _ _ _ h => h) (Or.inl ⟨by rfl, ?_⟩) ?_
          rotate_left 1
          · intro w
            (go_simp) <;> (with_reducible rfl)
          refine wpAny_ready (rs := [10]) (by kernel_rfl) (by simp) ?_
          refine AllReady.cons rfl (fun K hK => ?_) ?_
          · skip
            go_simp
            refine hK _ _ ?_
            clear hK K
            refine wpAny_done (by kernel_rfl) ?_ _
            go_wp2_with fail
            go_end0
            exact ⟨rfl, _, HC2.out⟩
          exact AllReady.nil
        exact AllReady.nil
      exact AllReady.nil
    exact AllReady.nil
  refine AllReady.cons rfl (fun K hK => ?_) ?_
  · skip
    go_simp
    refine hK _ _ ?_
    clear hK K
    refine wpAny_ready (rs := [4, 6]) (by kernel_rfl) (by simp) ?_
    refine AllReady.cons rfl (fun K hK => ?_) ?_
    · skip
      go_simp
      refine hK _ _ ?_
      clear hK K
      refine wpAny_ready (rs := [6]) (by kernel_rfl) (by simp) ?_
      refine AllReady.cons rfl (fun K hK => ?_) ?_
      · skip
        go_simp
        refine hK _ _ ?_
        clear hK K
        refine wpAny_ready (rs := [7]) (by kernel_rfl) (by simp) ?_
        refine AllReady.cons rfl (fun K hK => ?_) ?_
        · skip
          obtain ⟨v2, wb, hr, hC2, r0, r1, r2⟩ := BR.run HC.out q hl 65
          obtain ⟨A2, c2, hv2⟩ := hC2.slice
          obtain ⟨n2, hn2⟩ : ∃ n2, n2 = (s ++ [q]).length := ⟨_, rfl⟩
          rw [← hn2] at hv2
          clear hn2
          subst hv2
          have HC2 := Lib.hid hC2
          refine op_append (.tmp 10) (.tmp 12) 65 rfl _ _ _ wb rfl rfl hr ?_
          refine hK _ _ ?_
          clear hK K hr hC2 k0 kl kl2 k02
          refine wpAny_take (i := 8) (v := ?_) rfl (by kernel_rfl) (by kernel_rfl) (by kernel_rfl) (fun _ _ _ h => h) (Or.inl ⟨by rfl, ?_⟩) ?_
          rotate_left 1
          · intro w
            (go_simp) <;> (with_reducible rfl)
          refine wpAny_take (i := 9) (v := ?_) rfl (by kernel_rfl) (by kernel_rfl) (by kernel_rfl) (fun _ _ _ h => h) (Or.inl ⟨by rfl, ?_⟩) ?_
          rotate_left 1
          · intro w
            (go_simp) <;> (with_reducible rfl)
          refine wpAny_ready (rs := [10]) (by kernel_rfl) (by simp) ?_
          refine AllReady.cons rfl (fun K hK => ?_) ?_
          · skip
            go_simp
            refine hK _ _ ?_
            clear hK K
            refine wpAny_done (by kernel_rfl) ?_ _
            go_wp2_with fail
            go_end0
            exact ⟨rfl, _, HC2.out⟩
          exact AllReady.nil
        exact AllReady.nil
      exact AllReady.nil
    refine AllReady.cons rfl (fun K hK => ?_) ?_
    · skip
      go_simp
      refine hK _ _ ?_
      clear hK K
      refine wpAny_ready (rs := [4]) (by kernel_rfl) (by simp) ?_
      refine AllReady.cons rfl (fun K hK => ?_) ?_
      · skip
        go_simp
        refine hK _ _ ?_
        clear hK K
        refine wpAny_ready (rs := [7]) (by kernel_rfl) (by simp) ?_
        refine AllReady.cons rfl (fun K hK => ?_) ?_
        · skip
          obtain ⟨v2, wb, hr, hC2, r0, r1, r2⟩ := BR.run HC.out q hl 65
          obtain ⟨A2, c2, hv2⟩ := hC2.slice
          obtain ⟨n2, hn2⟩ : ∃ n2, n2 = (s ++ [q]).length := ⟨_, rfl⟩
          rw [← hn2] at hv2
          clear hn2
          subst hv2
          have HC2 := Lib.hid hC2
          refine op_append (.tmp 10) (.tmp 12) 65 rfl _ _ _ wb rfl rfl hr ?_
          refine hK _ _ ?_
          clear hK K hr hC2 k0 kl kl2 k02
          refine wpAny_take (i := 8) (v := ?_) rfl (by kernel_rfl) (by kernel_rfl) (by kernel_rfl) (fun _ _ _ h => h) (Or.inl ⟨by rfl, ?_⟩) ?_
          rotate_left 1
          · intro w
            (go_simp) <;> (with_reducible rfl)
          refine wpAny_take (i := 9) (v := ?_) rfl (by kernel_rfl) (by kernel_rfl) (by kernel_rfl) (fun _ _ _ h => h) (Or.inl ⟨by rfl, ?_⟩) ?_
          rotate_left 1
          · intro w
            (go_simp) <;> (with_reducible rfl)
          refine wpAny_ready (rs := [10]) (by kernel_rfl) (by simp) ?_
          refine AllReady.cons rfl (fun K hK => ?_) ?_
          · skip
            go_simp
            refine hK _ _ ?_
            clear hK K
            refine wpAny_done (by kernel_rfl) ?_ _
            go_wp2_with fail
            go_end0
            exact ⟨rfl, _, HC2.out⟩
          exact AllReady.nil
        exact AllReady.nil
      exact AllReady.nil
    exact AllReady.nil
  exact AllReady.nil
set_option maxRecDepth 100000 in
theorem here_b (w0 w : World) (p B : Nat) (v : Value) (k : Int) (s : List PtM) (x : Int) (h : BR w0 w p B v k s) (hl : s.length ≤ 5000) :
    Calls Try.prog 38 #[.pointer (some ⟨p, 0, none⟩), .int .i64 x] w fun e w' => e = .returned (.tuple #[]) ∧ ∃ v2, BR w0 w' p B v2 k (s ++ [⟨1, x, 0, ⟨0, 0, 0, 0⟩⟩]) := by
  have HA := Lib.hid (badd_any w0 w p B v k s ⟨1, x, 0, ⟨0, 0, 0, 0⟩⟩ h hl)
  go_enter Try.func38, Try.ntmps38
  go_wp2_with fail
  refine HA.out.mono ?_
  rintro e w1 ⟨rfl, hb⟩
  have HB := Lib.hid hb
  clear hb
  go_wp2_with fail
  go_end0
  exact ⟨rfl, HB.out⟩
set_option maxRecDepth 100000 in
theorem goto_b (w0 w : World) (p B : Nat) (v : Value) (k : Int) (s : List PtM) (x : Int) (h : BR w0 w p B v k s) (hl : s.length ≤ 5000) :
    Calls Try.prog 37 #[.pointer (some ⟨p, 0, none⟩), .int .i64 x] w fun e w' => e = .returned (.tuple #[]) ∧ ∃ v2, BR w0 w' p B v2 k (s ++ [⟨4, x, 0, ⟨0, 0, 0, 0⟩⟩]) := by
  have HA := Lib.hid (badd_any w0 w p B v k s ⟨4, x, 0, ⟨0, 0, 0, 0⟩⟩ h hl)
  go_enter Try.func37, Try.ntmps37
  go_wp2_with fail
  refine HA.out.mono ?_
  rintro e w1 ⟨rfl, hb⟩
  have HB := Lib.hid hb
  clear hb
  go_wp2_with fail
  go_end0
  exact ⟨rfl, HB.out⟩
set_option maxRecDepth 100000 in
theorem new_b (w0 w : World) (p B : Nat) (v : Value) (s : List PtM) (h : BR w0 w p B v 0 s) :
    Calls Try.prog 36 #[.pointer (some ⟨p, 0, none⟩)] w fun e w' => e = .returned (.int .i64 1) ∧ BR w0 w' p B v 1 s := by
  have k0 := h.box.cell 0 rfl
  have kf := h.box.fz 0
  have kl := h.box.lt
  have HC := Lib.hid (h.named 1)
  have hptr : ∀ w : World, (binOp .eql 178 (.pointer (some ⟨p, 0, none⟩)) (.pointer none)).run Try.prog w = .ok (.bool false) w := fun w => by kernel_rfl
  clear h
  go_enter Try.func36, Try.ntmps36
  go_wp2_with fail
  go_ret
  exact ⟨rfl, HC.out⟩
set_option maxRecDepth 100000 in
theorem parts_b (w0 w : World) (p B : Nat) (v : Value) (k : Int) (s : List PtM) (h : BR w0 w p B v k s) (hl : s.length ≤ 5000) :
    Calls Try.prog 40 #[.pointer (some ⟨p, 0, none⟩)] w (ClP s w) := by
  obtain ⟨A, cp, rfl⟩ := h.slice
  have k1 := h.box.cell 1 rfl
  have kl := h.box.lt
  have HRd : Hid (Rd w 7 s.length A (s.flatMap PtM.cells)) := by obtain ⟨A9, c9, e, _, h, _⟩ := own_typed h.row; cases e; exact Lib.hid h.rd
  have HCl := Lib.hid (clone_any s s.length A cp w rfl HRd.out (by omega) (rd_nil HRd.out))
  have hptr : ∀ w : World, (binOp .eql 178 (.pointer (some ⟨p, 0, none⟩)) (.pointer none)).run Try.prog w = .ok (.bool false) w := fun w => by kernel_rfl
  obtain ⟨z, hz⟩ : ∃ z, z = s.length := ⟨_, rfl⟩
  rw [← hz] at k1 HCl
  clear h hz
  go_enter Try.func40, Try.ntmps40
  go_wp2_with fail
  refine HCl.out.mono ?_
  rintro e w1 ⟨A1, c1, rfl, hr1, hb1⟩
  have HR := Lib.hid (And.intro hr1 hb1)
  clear hr1 hb1
  go_wp2_with fail
  go_ret
  exact ⟨A1, c1, rfl, HR.out.1, HR.out.2⟩
def twoP : List PtM := [⟨4, 1, 0, ⟨0, 0, 0, 0⟩⟩, ⟨1, 1, 0, ⟨0, 0, 0, 0⟩⟩]
theorem two_tidy : tidyF twoP = [] := by rfl
theorem two_ok : ∀ p ∈ twoP, p.ok := fun p hp => by
  simp only [twoP, List.mem_cons, List.not_mem_nil, or_false] at hp
  rcases hp with rfl | rfl <;> exact ⟨by decide, by decide, by decide, by decide, by decide, ⟨by decide, by decide, by decide, by decide⟩⟩
def oneP : List PtM := [⟨2, 0, 0, ⟨6, 0, 0, 7⟩⟩]
theorem one_make : makeF oneP = (0, ⟨[⟨6, 0, 0, 7⟩], []⟩) := by rfl
theorem one_ok : ∀ p ∈ oneP, p.ok := fun p hp => by
  simp only [oneP, List.mem_cons, List.not_mem_nil, or_false] at hp
  subst hp
  exact ⟨by decide, by decide, by decide, by decide, by decide, ⟨by decide, by decide, by decide, by decide⟩⟩
theorem bk_rd {w : World} {g t n z : Nat} {l : List Value} (h : Bk w g t l) (hl : l.length = n * z) : Rd w z n (some ⟨g, 0, none⟩) l :=
  ⟨hl, Or.inr ⟨g, 0, rfl, h.lt, fun j u hu => by rw [Nat.zero_add]; exact h.cell j hu⟩⟩
def RetB (b : Bool) (w : World) (e : Ending) (w' : World) : Prop := e = .returned (.bool b) ∧ Below w.heap.size w w'
set_option maxHeartbeats 8000000 in
set_option maxRecDepth 100000 in
theorem awake_any (w : World) : Calls Try.prog 15 #[] w (RetB true w) := by
  have hbr : BR w (w.alloc (.cells #[.int .i64 0, .slice none 0 0] 117)) w.heap.size (w.heap.size + 1) (.slice none 0 0) 0 [] := ⟨Bk.new w _ _ rfl, World.ownsRow_nil _ _ _ _, by omega, by simp, oneb w _, Nat.le_refl _⟩
  have HN := Lib.hid (new_b w _ _ _ _ _ hbr)
  have HG := Lib.hid (fun W v k s h hl => goto_b w W w.heap.size (w.heap.size + 1) v k s 1 h hl)
  have HH := Lib.hid (fun W v k s h hl => here_b w W w.heap.size (w.heap.size + 1) v k s 1 h hl)
  have HP := Lib.hid (fun W v k s h hl => parts_b w W w.heap.size (w.heap.size + 1) v k s h hl)
  clear hbr
  go_enter Try.func15, Try.ntmps15
  go_wp2_with fail
  refine HN.out.mono ?_
  rintro e w1 ⟨rfl, hb⟩
  have HB := Lib.hid hb
  clear hb
  go_wp2_with fail
  refine (HG.out _ _ _ _ HB.out (by simp)).mono ?_
  rintro e w2 ⟨rfl, v2, hb⟩
  have HB := Lib.hid hb
  clear hb
  go_wp2_with fail
  refine (HH.out _ _ _ _ HB.out (by simp)).mono ?_
  rintro e w3 ⟨rfl, v3, hb⟩
  have HB := Lib.hid (show BR w w3 w.heap.size (w.heap.size + 1) v3 1 twoP from hb)
  clear hb
  go_wp2_with fail
  refine (return_of 7 _).mono ?_
  rintro e w4 ⟨rfl, hb4⟩
  have HB := Lib.hid (HB.out.below hb4)
  clear hb4
  have HB5 := Lib.hid (HB.out.below (oneb w4 (.cells #[.int .u8 2, .int .i64 0, .int .i64 0, .int .u16 6, .int .u8 0, .int .u8 0, .int .u32 7] 125)))
  have HM := Lib.hid (make_any oneP 1 (some ⟨w4.heap.size, 0, none⟩) 1 (w4.alloc (.cells #[.int .u8 2, .int .i64 0, .int .i64 0, .int .u16 6, .int .u8 0, .int .u8 0, .int .u32 7] 125)) rfl (by omega) one_ok (bk_rd (Bk.new w4 _ _ rfl) rfl))
  go_wp2_with fail
  refine HM.out.mono ?_
  rintro e w6 ⟨hb6, hm, _⟩
  obtain ⟨vm, hr, rfl⟩ := hm (by rw [one_make])
  rw [one_make] at hr
  obtain ⟨Am, cm, rfl, _⟩ := own_typed hr
  have HB := Lib.hid (HB5.out.below hb6)
  clear hb6 hm hr
  go_wp2_with fail
  refine (HP.out _ _ _ _ HB.out (by simp [twoP])).mono ?_
  rintro e w7 ⟨A7, c7, rfl, hr7, hb7⟩
  have HB := Lib.hid (HB.out.below hb7)
  clear hr7 hb7
  go_wp2_with fail
  refine (HP.out _ _ _ _ HB.out (by simp [twoP])).mono ?_
  rintro e w8 ⟨A8, c8, rfl, hr8, hb8⟩
  have HB := Lib.hid (HB.out.below hb8)
  have HT : Hid (Rd w8 7 2 A8 (twoP.flatMap PtM.cells)) := by obtain ⟨A9, c9, e, _, h, _⟩ := own_typed hr8; cases e; exact Lib.hid h.rd
  clear hr8 hb8
  have HTi := Lib.hid (tidy_any twoP 2 A8 c8 w8 rfl (by omega) two_ok HT.out)
  go_wp2_with fail
  refine HTi.out.mono ?_
  rintro e w9 ⟨A9, c9, rfl, _, hb9⟩
  rw [two_tidy]
  have HB := Lib.hid (HB.out.below hb9)
  clear hb9
  go_wp2_with fail
  go_ret
  exact ⟨rfl, HB.out.bel⟩
end Go.Proofs.Ytcageojoafkojaa.Ju
namespace Go.Proofs.Ytcageojoafkojaa.Ju
set_option maxRecDepth 100000
open Go.ChangeShapes Go.WideShapes Go.ChangeAt Go.RowKit Go.Deep
section
variable {H : Type} {enc : TypeId × Value → H} {w : World} {base : Nat} {spare : Nat → Bool} {held : Bool} {fuel : Nat} {x : DataW H × List MemPlace} {A : Option Addr} {len cap : Nat}
theorem cell_lt {w : World} {a : Addr} {v : Value} (h : w.cell? a = some v) : a.block < w.heap.size ∧ a.spot = none := by
  refine ⟨?_, ?_⟩
  · unfold World.cell? at h
    split at h
    · rename_i h2; exact (Array.getElem?_eq_some_iff.1 h2).1
    · cases h
  · unfold World.cell? at h
    split at h
    · split at h
      · cases h
      · rename_i h3; simpa using h3
    · cases h
theorem add_at (b o j : Nat) : (⟨b, o, none⟩ : Addr).add j = ⟨b, o + j, none⟩ := by unfold Addr.add; split <;> simp_all
/-- Cells that are told one by one, as a list that reads so. -/
theorem rd_of {z n : Nat} {a : Addr} {xs : List Value} (hl : xs.length = n * z) (hz : 0 < z) (h : ∀ j u, xs[j]? = some u → w.cell? (a.add j) = some u) : Rd w z n (some a) xs := by
  refine ⟨hl, ?_⟩
  rcases Nat.eq_zero_or_pos n with h0 | h0
  · exact .inl h0
  · right
    have hp : 0 < xs.length := by rw [hl]; exact Nat.mul_pos h0 hz
    obtain ⟨h1, h2⟩ := cell_lt (h 0 _ (List.getElem?_eq_getElem hp))
    obtain ⟨b, o, spot⟩ := a
    have hs : spot = none := by simpa [Addr.add] using h2
    subst hs
    exact ⟨b, o, rfl, by simpa [Addr.add] using h1, fun j u hu => by rw [← add_at]; exact h j u hu⟩
end
section
variable {H : Type} {enc : TypeId × Value → H} {w : World} {base : Nat} {spare : Nat → Bool} {held : Bool} {r : Go.Reach} {b0 : Nat} {v : Value} {d : DataW H} {p : List MemPlace}
end
/-- A part in small numbers. -/
structure SmP where
  kd : Nat
  tt : Nat
  el : Nat
  how : Nat
  k : Nat
  pad : Nat
def SmP.cells (p : SmP) : List Value := [.int .u8 p.kd, .int .u8 p.tt, .int .u8 p.el, .int .u8 p.how, .int .u8 p.k, .int .u16 p.pad]
def SmP.ok (p : SmP) : Prop := p.kd < 256 ∧ p.tt < 256 ∧ p.el < 256 ∧ p.how < 256 ∧ p.k < 256 ∧ p.pad < 65536
section
variable {H : Type} {enc : TypeId × Value → H} {w : World} {base : Nat} {spare : Nat → Bool} {held : Bool} {fuel : Nat} {x : DataW H × List MemPlace} {A : Option Addr} {len cap : Nat}
end
end Go.Proofs.Ytcageojoafkojaa.Ju
namespace Go.Proofs.Ytcageojoafkojaa.Ju
def zI : Ins := ⟨0, 0, 0, 0⟩
def loadP (k : Nat) : PtM := ⟨2, 0, 0, ⟨32, 0, 0, k⟩⟩
def hereP (n : Nat) : PtM := ⟨1, n, 0, zI⟩
def retP (n : Nat) : PtM := ⟨2, 0, 0, ⟨6, 0, 0, n⟩⟩
/-- What stands behind is made; the names from n tQ 6 are there, no lower one, none above 6 but below 100 or from 100 + i on. -/
structure Got (l : List PtM) (n i K : Nat) : Prop where
  ok : (makeF l).1 = 0
  has : ∀ m : Nat, n ≤ m → m ≤ 6 → (lk (m : Int) (makeF l).2.bh).isSome = true
  no : ∀ m : Nat, m < n → lk (m : Int) (makeF l).2.bh = none
  high : ∀ j : Nat, j < i → lk ((100 + j : Nat) : Int) (makeF l).2.bh = none
  len : (makeF l).2.ins.length ≤ K
theorem step_eq {p : PtM} {c : CdM} (h : (layF p c).2.ins.length ≤ 4096) : stepF p (0, c) = layF p c := by
  have e : stepF p (0, c) = if (layF p c).1 ≠ 0 then layF p c else if 4096 < (layF p c).2.ins.length then (205, (layF p c).2) else layF p c := by unfold stepF; rw [if_neg (by simp)]
  rw [e]
  by_cases h1 : (layF p c).1 ≠ 0
  · rw [if_pos h1]
  · rw [if_neg h1, if_neg (by omega)]
theorem step_here {p : PtM} {l : List PtM} (h : (makeF l).1 = 0) (hk : p.kd = 1) (hn : lk p.tQ (makeF l).2.bh = none) (hl : (makeF l).2.ins.length ≤ 4096) : makeF (p :: l) = (0, ⟨(makeF l).2.ins, (p.tQ, (makeF l).2.ins.length) :: (makeF l).2.bh⟩) := by
  rw [makeF_cons, show makeF l = (0, (makeF l).2) from Prod.ext h rfl]
  have e : layF p (makeF l).2 = (0, ⟨(makeF l).2.ins, (p.tQ, (makeF l).2.ins.length) :: (makeF l).2.bh⟩) := by
    unfold layF
    rw [if_pos hk, hn]
  rw [step_eq (by rw [e]; simpa using hl), e]
theorem Got.here {l : List PtM} {n i K : Nat} (h : Got l (n + 1) i K) (hn : n ≤ 6) (hK : K ≤ 4096) : Got (hereP n :: l) n i K := by
  have hl := h.len
  have e := step_here (p := hereP n) h.ok rfl (h.no n (by omega)) (by omega)
  refine ⟨by rw [e], ?_, ?_, ?_, ?_⟩ <;> rw [e] <;> simp only
  · intro m h1 h2
    rw [lk_cons]
    by_cases hm : m = n
    · subst hm; rw [if_pos (by rfl)]; rfl
    · rw [if_neg (by show ¬ (n : Int) = m; omega)]; exact h.has m (by omega) h2
  · intro m h1
    rw [lk_cons, if_neg (by show ¬ (n : Int) = m; omega)]
    exact h.no m (by omega)
  · intro j hj
    rw [lk_cons, if_neg (by show ¬ (n : Int) = ((100 + j : Nat) : Int); omega)]
    exact h.high j hj
  · exact hl
end Go.Proofs.Ytcageojoafkojaa.Ju
namespace Go.Proofs.Ytcageojoafkojaa.Ju
def HasN (n : Int) (l : List PtM) : Prop := ∃ p ∈ l, p.kd = 1 ∧ p.tQ = n
def WayTo (p : PtM) (n : Int) : Prop := (p.kd = 3 ∧ (p.tQ = n ∨ p.el = n)) ∨ (p.kd = 4 ∧ p.tQ = n)
def Fwd : List PtM → Prop
  | [] => True
  | p :: t => Fwd t ∧ (p.kd = 1 → ¬ HasN p.tQ t) ∧ (∀ n, WayTo p n → HasN n t)
theorem has_nil (n : Int) : ¬ HasN n [] := fun ⟨_, h, _⟩ => by cases h
theorem has_cons {n : Int} {p : PtM} {t : List PtM} : HasN n (p :: t) ↔ (p.kd = 1 ∧ p.tQ = n) ∨ HasN n t := by
  constructor
  · rintro ⟨q, hq, h1, h2⟩
    rcases List.mem_cons.1 hq with rfl | hq
    · exact Or.inl ⟨h1, h2⟩
    · exact Or.inr ⟨q, hq, h1, h2⟩
  · rintro (⟨h1, h2⟩ | ⟨q, hq, h1, h2⟩)
    · exact ⟨p, List.mem_cons_self, h1, h2⟩
    · exact ⟨q, List.mem_cons_of_mem _ hq, h1, h2⟩
/-! Leading, from the end. -/
def InvO (o : List (Int × Int)) : Prop := ∀ n t, lk n o = some t → lk t o = none
/-- What leading leaves. -/
structure LdI (z : List PtM) (s : LdM) : Prop where
  inv : InvO s.o
  keys : ∀ n t, lk n s.o = some t → HasN n z ∧ HasN t z
  has : ∀ n, HasN n s.l ↔ HasN n z
  fwd : Fwd s.l
  ways : ∀ p ∈ s.l, ∀ n, WayTo p n → lk n s.o = none
  nx : s.nx.kd = 4 → HasN s.nx.tQ z ∧ lk s.nx.tQ s.o = none
/-- The first part that is no name. -/
def nextP : List PtM → Option PtM
  | [] => none
  | p :: t => if p.kd = 1 then nextP t else some p
/-- A name before a Goto. -/
def BadH (n : Int) : List PtM → Prop
  | [] => False
  | p :: t => (p.kd = 1 ∧ p.tQ = n ∧ ∃ q, nextP t = some q ∧ q.kd = 4) ∨ BadH n t
end Go.Proofs.Ytcageojoafkojaa.Ju
