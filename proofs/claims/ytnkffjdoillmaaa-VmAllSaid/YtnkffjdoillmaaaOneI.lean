/- One instruction: does it always jump; what it takes from scratch, puts there; where it goes on; has it a right number. -/
import Derived.Test.YtnkffjdoillmaaaSmall
import Derived.Test.YtnkffjdoillmaaaWays
import Derived.Test.YtnkffjdoillmaaaSeg
import Derived.LoopTactic
namespace Go.Proofs.Ytnkffjdoillmaaa
open Go.RowKit
theorem beq_nat (a b : Nat) : ((a : Int) == (b : Int)) = decide (a = b) := by
  rw [Bool.eq_iff_iff]; simp; omega
def OneB (b : Bool) (w : World) (e : Ending) (w' : World) : Prop := e = .returned (.bool b) ∧ Below w.heap.size w w'
def OneN (k : IntKind) (n : Nat) (w : World) (e : Ending) (w' : World) : Prop := e = .returned (.int k n) ∧ Below w.heap.size w w'
theorem one_below (w : World) (o : Obj) : Below w.heap.size w (w.alloc o) := (Below.refl _ _).alloc (Nat.le_refl _) _
set_option maxRecDepth 100000 in
theorem always_any (c t f k : Nat) (w : World) : Calls Try.prog 66 #[.agg #[.int .u16 c, .int .u8 t, .int .u8 f, .int .u32 k]] w (OneB (decide (c = 5)) w) := by
  have hb := beq_nat c 5
  have Hb := Lib.hid hb
  clear hb
  go_enter Try.func66, Try.ntmps66
  go_wp2
  go_ret
  exact ⟨ret_bool Hb.out, one_below _ _⟩
set_option maxRecDepth 100000 in
theorem taken_any (x : Ins) (w : World) (hr : rangeB x = true) : Calls Try.prog 61 #[.agg #[.int .u16 x.c, .int .u8 x.t, .int .u8 x.f, .int .u32 x.k]] w fun e w' => e = .returned (.int .u16 (takenN x)) ∧ w' = w.alloc (.cells #[.int .u16 x.c, .int .u8 x.t, .int .u8 x.f, .int .u32 x.k] 60) := by
  obtain ⟨c, t, f, k⟩ := x
  dsimp only at *
  by_cases ht : takes ⟨c, t, f, k⟩ = true
  · have hk : k < 16 := takes_lt hr ht
    have hN : takenN ⟨c, t, f, k⟩ = 2 ^ k := by unfold takenN; rw [if_pos ht]
    rw [hN]
    simp only [takes, Bool.or_eq_true, beq_iff_eq] at ht
    clear hr hN
    rcases ht with rfl | rfl
    all_goals
      rcases (by omega : k = 0 ∨ k = 1 ∨ k = 2 ∨ k = 3 ∨ k = 4 ∨ k = 5 ∨ k = 6 ∨ k = 7 ∨ k = 8 ∨ k = 9 ∨ k = 10 ∨ k = 11 ∨ k = 12 ∨ k = 13 ∨ k = 14 ∨ k = 15) with rfl | rfl | rfl | rfl | rfl | rfl | rfl | rfl | rfl | rfl | rfl | rfl | rfl | rfl | rfl | rfl
      all_goals
        go_enter Try.func61, Try.ntmps61
        go_wp2
        go_ret
        exact ⟨rfl, rfl⟩
  · have hN : takenN ⟨c, t, f, k⟩ = 0 := by unfold takenN; rw [if_neg ht]
    rw [hN]
    have h1 : ((c : Int) == 96) = false := by rw [← Bool.not_eq_true]; intro h; apply ht; simp [takes] at *; omega
    have h2 : ((c : Int) == 97) = false := by rw [← Bool.not_eq_true]; intro h; apply ht; simp [takes] at *; omega
    clear hr hN ht
    go_enter Try.func61, Try.ntmps61
    go_wp2
    go_ret
    exact ⟨rfl, rfl⟩
set_option maxRecDepth 100000 in
theorem put_any (x : Ins) (w : World) (hr : rangeB x = true) : Calls Try.prog 62 #[.agg #[.int .u16 x.c, .int .u8 x.t, .int .u8 x.f, .int .u32 x.k]] w fun e w' => e = .returned (.int .u16 (putN x)) ∧ w' = w.alloc (.cells #[.int .u16 x.c, .int .u8 x.t, .int .u8 x.f, .int .u32 x.k] 60) := by
  obtain ⟨c, t, f, k⟩ := x
  dsimp only at *
  by_cases ht : puts ⟨c, t, f, k⟩ = true
  · have hk : k < 16 := puts_lt hr ht
    have hN : putN ⟨c, t, f, k⟩ = 2 ^ k := by unfold putN; rw [if_pos ht]
    rw [hN]
    simp only [puts, Bool.or_eq_true, beq_iff_eq] at ht
    clear hr hN
    rcases ht with rfl | rfl
    all_goals
      rcases (by omega : k = 0 ∨ k = 1 ∨ k = 2 ∨ k = 3 ∨ k = 4 ∨ k = 5 ∨ k = 6 ∨ k = 7 ∨ k = 8 ∨ k = 9 ∨ k = 10 ∨ k = 11 ∨ k = 12 ∨ k = 13 ∨ k = 14 ∨ k = 15) with rfl | rfl | rfl | rfl | rfl | rfl | rfl | rfl | rfl | rfl | rfl | rfl | rfl | rfl | rfl | rfl
      all_goals
        go_enter Try.func62, Try.ntmps62
        go_wp2
        go_ret
        exact ⟨rfl, rfl⟩
  · have hN : putN ⟨c, t, f, k⟩ = 0 := by unfold putN; rw [if_neg ht]
    rw [hN]
    have h1 : ((c : Int) == 2) = false := by rw [← Bool.not_eq_true]; intro h; apply ht; simp [puts] at *; omega
    have h2 : ((c : Int) == 3) = false := by rw [← Bool.not_eq_true]; intro h; apply ht; simp [puts] at *; omega
    clear hr hN ht
    go_enter Try.func62, Try.ntmps62
    go_wp2
    go_ret
    exact ⟨rfl, rfl⟩
end Go.Proofs.Ytnkffjdoillmaaa

