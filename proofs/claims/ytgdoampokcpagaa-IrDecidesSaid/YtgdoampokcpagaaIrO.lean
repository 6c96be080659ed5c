/- The order of rules: by their calls' numbers, the stronger kinds first. -/
import Derived.Test.YtgdoampokcpagaaGc
import Derived.Test.YtgdoampokcpagaaGp
import Derived.Test.YtgdoampokcpagaaIrS
import Derived.Shelf.SlSortCmp.InsertionK
import Derived.Deep.RegionWith
import Derived.Deep.CutRange
namespace Go.Proofs.Ytgdoampokcpagaa.Ir
open Go.RowKit Go.Shelf Go.Sort Go.Proofs.Ytgdoampokcpagaa.Rec
theorem isnan_any (x : Int) (w : World) : Calls Try.prog 43 #[.int .u32 x] w fun e w' => e = .returned (.bool false) ∧ w = w' := by
  go_enter Try.func43, Try.ntmps43
  go_wp2
  go_ret
  exact ⟨by simp, rfl⟩
theorem compare_any (x y : Int) (w : World) : Calls Try.prog 33 #[.int .u32 x, .int .u32 y] w fun e w' => e = .returned (.int .i64 (if x < y then -1 else if y < x then 1 else 0)) ∧ w = w' := by
  by_cases h1 : x < y
  · rw [if_pos h1]
    go_enter Try.func33, Try.ntmps33
    go_wp2_with (go_at_call 43; refine (isnan_any _ _).mono ?_; rintro e w1 ⟨rfl, rfl⟩)
    go_ret
    exact ⟨rfl, rfl⟩
  · rw [if_neg h1]
    by_cases h2 : y < x
    · rw [if_pos h2]
      go_enter Try.func33, Try.ntmps33
      go_wp2_with (go_at_call 43; refine (isnan_any _ _).mono ?_; rintro e w1 ⟨rfl, rfl⟩)
      go_ret
      exact ⟨rfl, rfl⟩
    · rw [if_neg h2]
      go_enter Try.func33, Try.ntmps33
      go_wp2_with (go_at_call 43; refine (isnan_any _ _).mono ?_; rintro e w1 ⟨rfl, rfl⟩)
      go_ret
      exact ⟨rfl, rfl⟩
/-- A rule that a Go value may be. -/
def RV := { r : RuleV // r.m.num < 4294967296 ∧ r.m.act < 4294967296 }
instance : Inhabited RV := ⟨⟨⟨⟨0, 0, []⟩, none, 0⟩, by decide, by decide⟩⟩
def RV.enc (x : RV) : List Value := x.1.cells
/-- The order. -/
def ordF (a b : RuleM) : Int := if a.num < b.num then -1 else if b.num < a.num then 1 else if strN b.act < strN a.act then -1 else if strN a.act < strN b.act then 1 else 0
def cf (x y : RV) : Int := ordF x.1.m y.1.m
theorem strN_lt (a : Nat) : strN a ≤ 3 := by unfold strN; split; omega; split; omega; split <;> omega
theorem kd_inj {s t : Nat} (hs : s ≤ 3) (ht : t ≤ 3) (h : kdOf s = kdOf t) : s = t := by
  rcases (show s = 0 ∨ s = 1 ∨ s = 2 ∨ s = 3 by omega) with rfl | rfl | rfl | rfl <;> rcases (show t = 0 ∨ t = 1 ∨ t = 2 ∨ t = 3 by omega) with rfl | rfl | rfl | rfl <;> revert h <;> decide
theorem kd_str {s : Nat} (hs : s ≤ 3) : strN (kdOf s) = s := by
  rcases (show s = 0 ∨ s = 1 ∨ s = 2 ∨ s = 3 by omega) with rfl | rfl | rfl | rfl <;> decide
theorem kd_lt (s : Nat) : kdOf s < 4294967296 := by unfold kdOf; split; omega; split; omega; split <;> omega
theorem stg_kd {s t : Nat} (hs : s ≤ 3) (ht : t ≤ 3) : stg (kdOf s) (kdOf t) = if s < t then kdOf t else kdOf s := by unfold stg; rw [kd_str hs, kd_str ht]
theorem swo : SWO (ltOf cf) := by
  have hd : ∀ x y : RV, ltOf cf x y = true ↔ x.1.m.num < y.1.m.num ∨ x.1.m.num = y.1.m.num ∧ strN y.1.m.act < strN x.1.m.act := fun x y => by
    unfold ltOf cf ordF
    rw [decide_eq_true_iff]
    by_cases h1 : x.1.m.num < y.1.m.num
    · simp [h1]
    · by_cases h2 : y.1.m.num < x.1.m.num
      · simp [h1, h2]; omega
      · by_cases h3 : strN y.1.m.act < strN x.1.m.act
        · simp [h1, h2, h3]; omega
        · by_cases h4 : strN x.1.m.act < strN y.1.m.act <;> simp [h1, h2, h3, h4]
  have hn : ∀ x y : RV, ltOf cf x y = false ↔ ¬ (x.1.m.num < y.1.m.num ∨ x.1.m.num = y.1.m.num ∧ strN y.1.m.act < strN x.1.m.act) := fun x y => by rw [← hd, Bool.not_eq_true]
  refine ⟨fun x => (hn x x).2 (by omega), fun x y z h1 h2 => ?_, fun x y z h1 h2 => ?_⟩
  · rw [hd] at *; omega
  · rw [hn] at *; omega
set_option maxHeartbeats 4000000 in
theorem order_any (x y : RuleV) (hx : x.m.num < 4294967296 ∧ x.m.act < 4294967296) (hy : y.m.num < 4294967296 ∧ y.m.act < 4294967296) (W : World) :
    Calls Try.prog 24 #[.agg x.cells.toArray, .agg y.cells.toArray] W fun e w' => e = .returned (.int .i64 (ordF x.m y.m)) ∧ ∃ q os', w' = grow (W.drewN q) os' := by
  obtain ⟨⟨n, a, cs⟩, A, cp⟩ := x
  obtain ⟨⟨n', a', cs'⟩, A', cp'⟩ := y
  show Calls Try.prog 24 #[.agg #[.int .u32 n, .int .u32 a, .slice A cs.length cp], .agg #[.int .u32 n', .int .u32 a', .slice A' cs'.length cp']] W fun e w' => e = .returned (.int .i64 (ordF ⟨n, a, cs⟩ ⟨n', a', cs'⟩)) ∧ ∃ q os', w' = grow (W.drewN q) os'
  generalize cs.length = z
  generalize cs'.length = z'
  have hc := compare_any (n : Int) (n' : Int)
  have hk := fun w => kind_any a w hx.2
  have hk' := fun w => kind_any a' w hy.2
  have hs := fun w => stronger_any (kdOf (strN a)) (kdOf (strN a')) w (kd_lt _) (kd_lt _)
  have b1 := strN_lt a
  have b2 := strN_lt a'
  simp only [stg_kd b1 b2] at hs
  by_cases h1 : n < n'
  · have e0 : ordF ⟨n, a, cs⟩ ⟨n', a', cs'⟩ = -1 := by simp [ordF, h1]
    simp only [show ((n : Int) < (n' : Int)) from by omega, if_true] at hc
    rw [e0]
    go_enter Try.func24, Try.ntmps24
    go_wp2_with (go_at_call 33; refine (hc _).mono ?_; rintro e w1 ⟨rfl, rfl⟩)
    go_ret
    exact ⟨rfl, 0, _, by rw [alloc_eq_grow, alloc_eq_grow, grow_grow]; rfl⟩
  · by_cases h2 : n' < n
    · have e0 : ordF ⟨n, a, cs⟩ ⟨n', a', cs'⟩ = 1 := by simp [ordF, h1, h2]
      simp only [show ¬ ((n : Int) < (n' : Int)) from by omega, show ((n' : Int) < (n : Int)) from by omega, if_true, if_false] at hc
      rw [e0]
      go_enter Try.func24, Try.ntmps24
      go_wp2_with (go_at_call 33; refine (hc _).mono ?_; rintro e w1 ⟨rfl, rfl⟩)
      go_ret
      exact ⟨rfl, 0, _, by rw [alloc_eq_grow, alloc_eq_grow, grow_grow]; rfl⟩
    · simp only [show ¬ ((n : Int) < (n' : Int)) from by omega, show ¬ ((n' : Int) < (n : Int)) from by omega, if_false] at hc
      have e0 : ordF ⟨n, a, cs⟩ ⟨n', a', cs'⟩ = if strN a' < strN a then -1 else if strN a < strN a' then 1 else 0 := by simp [ordF, h1, h2]
      rw [e0]
      have hi : kdOf (strN a) = kdOf (strN a') ↔ strN a = strN a' := ⟨kd_inj b1 b2, fun h => by rw [h]⟩
      generalize kdOf (strN a) = ka at hk hs hi
      generalize kdOf (strN a') = kb at hk' hs hi
      clear b1 b2 e0
      by_cases h3 : strN a = strN a'
      · rw [if_neg (by omega), if_neg (by omega)]
        obtain rfl : ka = kb := hi.2 h3
        clear hs hi h3 h1 h2 hx hy
        go_enter Try.func24, Try.ntmps24
        go_wp2_with (go_at_call 33; refine (hc _).mono ?_; rintro e w1 ⟨rfl, rfl⟩)
        go_cut [6, 7] from 16 to 21 (fun s6 s7 wx => s6 = .int .u32 ka ∧ s7 = .int .u32 ka ∧ ∃ q os', wx = grow (W.drewN q) os')
        case first =>
          go_region_with (go_at_call 34; first | (with_reducible refine (hk _).mono ?_; rintro e w1 ⟨rfl, rfl⟩) | (with_reducible refine (hk' _).mono ?_; rintro e w1 ⟨rfl, rfl⟩))
          all_goals (go_wp2_with fail; go_meet; case rel => exact ⟨rfl, rfl, 1, _, by rw [alloc_eq_grow, alloc_eq_grow, grow_grow]; rfl⟩)
        obtain ⟨rfl, rfl, hgw⟩ := hcut
        go_wp2_with fail
        go_ret
        exact ⟨rfl, hgw⟩
      · have hq : ¬ (ka : Int) = (kb : Int) := fun h => h3 (hi.1 (by omega))
        by_cases h4 : strN a < strN a'
        · rw [if_neg (by omega), if_pos h4]
          simp only [h4, if_true] at hs
          have hq2 : ¬ (kb : Int) = (ka : Int) := fun h => hq h.symm
          clear hi h3 h4 h1 h2 hx hy
          go_enter Try.func24, Try.ntmps24
          go_wp2_with (go_at_call 33; refine (hc _).mono ?_; rintro e w1 ⟨rfl, rfl⟩)
          go_cut [6, 7] from 16 to 21 (fun s6 s7 wx => s6 = .int .u32 ka ∧ s7 = .int .u32 kb ∧ ∃ q os', wx = grow (W.drewN q) os')
          case first =>
            go_region_with (go_at_call 34; first | (with_reducible refine (hk _).mono ?_; rintro e w1 ⟨rfl, rfl⟩) | (with_reducible refine (hk' _).mono ?_; rintro e w1 ⟨rfl, rfl⟩))
            all_goals (go_wp2_with fail; go_meet; case rel => exact ⟨rfl, rfl, 1, _, by rw [alloc_eq_grow, alloc_eq_grow, grow_grow]; rfl⟩)
          obtain ⟨rfl, rfl, hgw⟩ := hcut
          go_wp2_with (go_at_call 35; refine (hs _).mono ?_; rintro e w1 ⟨rfl, rfl⟩)
          go_ret
          exact ⟨rfl, hgw⟩
        · rw [if_pos (by omega)]
          simp only [h4, if_false] at hs
          clear hi h3 h4 h1 h2 hx hy
          go_enter Try.func24, Try.ntmps24
          go_wp2_with (go_at_call 33; refine (hc _).mono ?_; rintro e w1 ⟨rfl, rfl⟩)
          go_cut [6, 7] from 16 to 21 (fun s6 s7 wx => s6 = .int .u32 ka ∧ s7 = .int .u32 kb ∧ ∃ q os', wx = grow (W.drewN q) os')
          case first =>
            go_region_with (go_at_call 34; first | (with_reducible refine (hk _).mono ?_; rintro e w1 ⟨rfl, rfl⟩) | (with_reducible refine (hk' _).mono ?_; rintro e w1 ⟨rfl, rfl⟩))
            all_goals (go_wp2_with fail; go_meet; case rel => exact ⟨rfl, rfl, 1, _, by rw [alloc_eq_grow, alloc_eq_grow, grow_grow]; rfl⟩)
          obtain ⟨rfl, rfl, hgw⟩ := hcut
          go_wp2_with (go_at_call 35; refine (hs _).mono ?_; rintro e w1 ⟨rfl, rfl⟩)
          go_ret
          exact ⟨rfl, hgw⟩
theorem cmpLays (blk off size : Nat) (w : World) : CmpLays Try.prog 24 #[] RV.enc 3 cf blk off size w :=
  fun _ _ _ _ x y => order_any x.1 y.1 x.2 y.2 _
end Go.Proofs.Ytgdoampokcpagaa.Ir

