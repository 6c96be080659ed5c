/- never, always. -/
import Derived.Test.YtgdoampokcpagaaIrM
import Derived.Test.YtgdoampokcpagaaIrO
namespace Go.Proofs.Ytgdoampokcpagaa.Ir
open Go.RowKit Go.Shelf Go.Sort
theorem never_any (c : CondM) (w : World) (hc : c.ok) : Calls Try.prog 45 #[.agg c.cells.toArray] w fun e w' => e = .returned (.bool (neverB c)) ∧ ∃ os, w' = grow w os := by
  obtain ⟨a, o, m, v⟩ := c
  show Calls Try.prog 45 #[.agg #[.int .i64 a, .int .u8 o, .int .u64 m, .int .u64 v]] w fun e w' => e = .returned (.bool (neverB ⟨a, o, m, v⟩)) ∧ ∃ os, w' = grow w os
  have e0 : neverB ⟨a, o, m, v⟩ = decide (o = 3 ∧ v = 0 ∨ o = 5 ∧ v = 18446744073709551615) := rfl
  rw [e0]
  by_cases h1 : (o : Int) = 3 <;> by_cases h2 : (v : Int) = 0 <;> by_cases h3 : (o : Int) = 5 <;> by_cases h4 : (v : Int) = 18446744073709551615 <;> first | (exfalso; omega) | skip
  all_goals
    first | rw [decide_eq_true (show o = 3 ∧ v = 0 ∨ o = 5 ∧ v = 18446744073709551615 by omega)] | rw [decide_eq_false (show ¬ (o = 3 ∧ v = 0 ∨ o = 5 ∧ v = 18446744073709551615) by omega)]
    clear e0 hc
    go_enter Try.func45, Try.ntmps45
    go_wp2
    go_ret
    exact ⟨by first | rfl | simp_all, _, by rw [alloc_eq_grow]⟩
theorem always_any (c : CondM) (w : World) (hc : c.ok) : Calls Try.prog 46 #[.agg c.cells.toArray] w fun e w' => e = .returned (.bool (alwaysB c)) ∧ ∃ os, w' = grow w os := by
  obtain ⟨a, o, m, v⟩ := c
  show Calls Try.prog 46 #[.agg #[.int .i64 a, .int .u8 o, .int .u64 m, .int .u64 v]] w fun e w' => e = .returned (.bool (alwaysB ⟨a, o, m, v⟩)) ∧ ∃ os, w' = grow w os
  have e0 : alwaysB ⟨a, o, m, v⟩ = decide (0 ≤ a ∧ a ≤ 5 ∧ (o = 6 ∧ v = 0 ∨ o = 4 ∧ v = 18446744073709551615)) := rfl
  rw [e0]
  by_cases ha : a < 0
  · rw [decide_eq_false (by omega)]
    clear e0 hc
    go_enter Try.func46, Try.ntmps46
    go_wp2
    go_ret
    exact ⟨by first | rfl | simp_all, _, by rw [alloc_eq_grow]⟩
  by_cases hb : 6 ≤ a
  · rw [decide_eq_false (by omega)]
    clear e0 hc
    go_enter Try.func46, Try.ntmps46
    go_wp2
    go_ret
    exact ⟨by first | rfl | simp_all, _, by rw [alloc_eq_grow]⟩
  have ha2 : 0 ≤ a := by omega
  have hb2 : a ≤ 5 := by omega
  by_cases h1 : (o : Int) = 6 <;> by_cases h2 : (v : Int) = 0 <;> by_cases h3 : (o : Int) = 4 <;> by_cases h4 : (v : Int) = 18446744073709551615 <;> first | (exfalso; omega) | skip
  all_goals
    first | rw [decide_eq_true (show 0 ≤ a ∧ a ≤ 5 ∧ (o = 6 ∧ v = 0 ∨ o = 4 ∧ v = 18446744073709551615) by omega)] | rw [decide_eq_false (show ¬ (0 ≤ a ∧ a ≤ 5 ∧ (o = 6 ∧ v = 0 ∨ o = 4 ∧ v = 18446744073709551615)) by omega)]
    clear e0 hc
    go_enter Try.func46, Try.ntmps46
    go_wp2
    go_ret
    exact ⟨by first | rfl | simp_all, _, by rw [alloc_eq_grow]⟩
end Go.Proofs.Ytgdoampokcpagaa.Ir

