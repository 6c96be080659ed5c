/- One instruction: where it goes on. -/
import Derived.Test.YtnkffjdoillmaaaOneI
namespace Go.Proofs.Ytnkffjdoillmaaa
open Go.RowKit
/-- Where it goes on: a list of places of its own. -/
def NextPost (l : List Nat) (w : World) (e : Ending) (w' : World) : Prop :=
  ∃ A cp, e = .returned (.slice A l.length cp) ∧ l.length ≤ cp ∧ Seg w' w.heap.size 1 l.length A (ints l) ∧ Below w.heap.size w w'
theorem seg1 (w : World) (T n B : Nat) (hB : B ≤ w.heap.size) : Seg (w.alloc (.cells #[.int .i64 n] T)) B 1 1 (some ⟨w.heap.size, 0, none⟩) (ints [n]) := by
  refine ⟨rfl, .inr ⟨w.heap.size, 0, rfl, hB, by simp, fun j u hu => ?_⟩⟩
  have hj : j < 1 := by simpa [ints] using (List.getElem?_eq_some_iff.1 hu).1
  obtain rfl : j = 0 := by omega
  simp [ints] at hu; subst hu; simp
theorem seg2 (w : World) (T n m B : Nat) (hB : B ≤ w.heap.size) : Seg (w.alloc (.cells #[.int .i64 n, .int .i64 m] T)) B 1 2 (some ⟨w.heap.size, 0, none⟩) (ints [n, m]) := by
  refine ⟨rfl, .inr ⟨w.heap.size, 0, rfl, hB, by simp, fun j u hu => ?_⟩⟩
  have hj : j < 2 := by simpa [ints] using (List.getElem?_eq_some_iff.1 hu).1
  rcases (by omega : j = 0 ∨ j = 1) with rfl | rfl <;> (simp [ints] at hu; subst hu; simp)
/-- An instruction in a block, behind what lay there. -/
theorem box_cells {w w2 : World} {T c t f k : Nat} (hb : Below (w.alloc (.cells #[.int .u16 c, .int .u8 t, .int .u8 f, .int .u32 k] T)).heap.size (w.alloc (.cells #[.int .u16 c, .int .u8 t, .int .u8 f, .int .u32 k] T)) w2) :
    w2.cell? ⟨w.heap.size, 0, none⟩ = some (.int .u16 c) ∧ w2.cell? ⟨w.heap.size, 1, none⟩ = some (.int .u8 t) ∧ w2.cell? ⟨w.heap.size, 2, none⟩ = some (.int .u8 f) ∧ w2.cell? ⟨w.heap.size, 3, none⟩ = some (.int .u32 k) := by
  have h := (Bk.new w T #[.int .u16 c, .int .u8 t, .int .u8 f, .int .u32 k] rfl).kept hb
  exact ⟨h.cell 0 rfl, h.cell 1 rfl, h.cell 2 rfl, h.cell 3 rfl⟩
theorem box_below {w w2 : World} {o : Obj} (hb : Below (w.alloc o).heap.size (w.alloc o) w2) : Below w.heap.size w w2 := (one_below w o).trans (hb.mono (by simp))
set_option maxRecDepth 100000 in
set_option maxHeartbeats 1000000 in
theorem next_any (x : Ins) (a : Nat) (w : World) (hx : x.ok) (ha : a ≤ 65536) : Calls Try.prog 46 #[.agg #[.int .u16 x.c, .int .u8 x.t, .int .u8 x.f, .int .u32 x.k], .int .i64 a] w (NextPost (ways x a) w) := by
  obtain ⟨c, t, f, k⟩ := x
  obtain ⟨h1, h2, h3, h4⟩ := hx
  dsimp only at *
  obtain ⟨r, hr⟩ : ∃ r, r = c % 8 := ⟨_, rfl⟩
  have C := Lib.hid (fun w => class_any c w h1)
  rw [← hr] at C
  by_cases h6 : r = 6
  · subst h6
    have hw : ways ⟨c, t, f, k⟩ a = [] := by simp [ways, rel, ← hr]
    rw [hw]
    clear hr hw
    go_enter Try.func46, Try.ntmps46
    go_wp2_with fail
    refine (C.out _).mono ?_
    rintro e w' ⟨rfl, rfl⟩
    go_wp2_with fail
    go_ret
    exact ⟨_, _, rfl, Nat.le_refl _, Seg.nil _ _ _ _, one_below _ _⟩
  · have hb6 : ((r : Int) == 6) = false := by simp; omega
    by_cases h5 : r = 5
    · subst h5
      have A := Lib.hid (fun w => always_any c t f k w)
      by_cases hc : c = 5
      · have hw : ways ⟨c, t, f, k⟩ a = [a + 1 + k] := by simp [ways, rel, hc]
        rw [hw]
        rw [decide_eq_true hc] at A
        clear hr hw h6 hc
        go_enter Try.func46, Try.ntmps46
        go_wp2_with fail
        refine (C.out _).mono ?_
        rintro e w' ⟨rfl, rfl⟩
        go_wp2_with fail
        refine (C.out _).mono ?_
        rintro e w' ⟨rfl, rfl⟩
        go_wp2_with fail
        refine (A.out _).mono ?_
        rintro e w2 ⟨rfl, hb2⟩
        obtain ⟨q0, q1, q2, q3⟩ := box_cells hb2
        have Hb := Lib.hid (box_below hb2)
        clear hb2
        go_wp2_with fail
        go_ret
        exact ⟨_, 1, rfl, Nat.le_refl _, seg1 _ _ _ _ Hb.out.size, Hb.out.alloc Hb.out.size _⟩
      · have hw : ways ⟨c, t, f, k⟩ a = [a + 1 + t, a + 1 + f] := by simp [ways, rel, ← hr, hc]
        rw [hw]
        rw [decide_eq_false hc] at A
        clear hr hw h6 hc
        go_enter Try.func46, Try.ntmps46
        go_wp2_with fail
        refine (C.out _).mono ?_
        rintro e w' ⟨rfl, rfl⟩
        go_wp2_with fail
        refine (C.out _).mono ?_
        rintro e w' ⟨rfl, rfl⟩
        go_wp2_with fail
        refine (A.out _).mono ?_
        rintro e w2 ⟨rfl, hb2⟩
        obtain ⟨q0, q1, q2, q3⟩ := box_cells hb2
        have Hb := Lib.hid (box_below hb2)
        clear hb2
        go_wp2_with fail
        go_ret
        exact ⟨_, 2, rfl, Nat.le_refl _, seg2 _ _ _ _ _ Hb.out.size, Hb.out.alloc Hb.out.size _⟩
    · have hb5 : ((r : Int) == 5) = false := by simp; omega
      have hb5' : ((r : Int) != 5) = true := by simp; omega
      have hw : ways ⟨c, t, f, k⟩ a = [a + 1] := by
        have e6 : c % 8 ≠ 6 := hr ▸ h6
        have e5 : c % 8 ≠ 5 := hr ▸ h5
        simp [ways, rel, e6, e5]
      rw [hw]
      clear hr hw h6 h5
      go_enter Try.func46, Try.ntmps46
      go_wp2_with fail
      refine (C.out _).mono ?_
      rintro e w' ⟨rfl, rfl⟩
      go_wp2_with fail
      refine (C.out _).mono ?_
      rintro e w' ⟨rfl, rfl⟩
      go_wp2_with fail
      go_ret
      have h0 := one_below w (.cells #[.int .u16 c, .int .u8 t, .int .u8 f, .int .u32 k] 60)
      have s := seg1 (w.alloc (.cells #[.int .u16 c, .int .u8 t, .int .u8 f, .int .u32 k] 60)) 3 (a + 1) w.heap.size h0.size
      rw [World.size_alloc] at s
      exact ⟨_, 1, rfl, Nat.le_refl _, s, h0.alloc h0.size _⟩
end Go.Proofs.Ytnkffjdoillmaaa

