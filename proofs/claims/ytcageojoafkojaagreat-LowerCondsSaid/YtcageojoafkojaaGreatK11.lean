/- The order of rules: by their calls' numbers, the stronger kinds first. -/
import Derived.Test.YtcageojoafkojaaGreatK09
import Derived.Test.YtcageojoafkojaaGreatK08
import Derived.Test.YtcageojoafkojaaGreatK10
import Derived.Shelf.SlSortCmp.InsertionK
import Derived.Deep.RegionWith
import Derived.Deep.CutRange
import Derived.Deep.CutBlock
import Derived.StillTailTactics
import Derived.Outline
import Derived.Deep.RegionHeld3
import Derived.Deep.RegionLaw
import Derived.OwnWalk
import Derived.Deep.LoopGhost
import Derived.Laws.RangeAny
import Derived.Laws.OwnMore
import Derived.Deep.QuietTactic
import Derived.BigQuiet
import Derived.Test.YtcageojoafkojaaGreatK01
import Derived.Laws.BitsAllLaws
import Derived.Test.YtcageojoafkojaaGreatK02
namespace Go.Proofs.YtcageojoafkojaaGreat.Ir
open Go.RowKit Go.Shelf Go.Sort Go.Proofs.YtcageojoafkojaaGreat.Rec
theorem isnan_any (x : Int) (w : World) : Calls Tryz.prog 71 #[.int .u32 x] w fun e w' => e = .returned (.bool false) ∧ w = w' := by
  go_enter Tryz.func71, Tryz.ntmps71
  go_wp2
  go_ret
  exact ⟨by simp, rfl⟩
theorem compare_any (x y : Int) (w : World) : Calls Tryz.prog 43 #[.int .u32 x, .int .u32 y] w fun e w' => e = .returned (.int .i64 (if x < y then -1 else if y < x then 1 else 0)) ∧ w = w' := by
  by_cases h1 : x < y
  · rw [if_pos h1]
    go_enter Tryz.func43, Tryz.ntmps43
    go_wp2_with (go_at_call 71; refine (isnan_any _ _).mono ?_; rintro e w1 ⟨rfl, rfl⟩)
    go_ret
    exact ⟨rfl, rfl⟩
  · rw [if_neg h1]
    by_cases h2 : y < x
    · rw [if_pos h2]
      go_enter Tryz.func43, Tryz.ntmps43
      go_wp2_with (go_at_call 71; refine (isnan_any _ _).mono ?_; rintro e w1 ⟨rfl, rfl⟩)
      go_ret
      exact ⟨rfl, rfl⟩
    · rw [if_neg h2]
      go_enter Tryz.func43, Tryz.ntmps43
      go_wp2_with (go_at_call 71; refine (isnan_any _ _).mono ?_; rintro e w1 ⟨rfl, rfl⟩)
      go_ret
      exact ⟨rfl, rfl⟩
/-- A rule that a Go value may be. -/
def RV := { r : RuleV // r.m.num < 4294967296 ∧ r.m.act < 4294967296 }
instance : Inhabited RV := ⟨⟨⟨⟨0, 0, []⟩, none, 0⟩, by decide, by decide⟩⟩
def RV.enc (x : RV) : List Value := x.1.cells
/-- The order. -/
def ordF (a b : RuleM) : Int := if a.num < b.num then -1 else if b.num < a.num then 1 else if strN b.act < strN a.act then -1 else if strN a.act < strN b.act then 1 else 0
def cf (x y : RV) : Int := ordF x.1.m y.1.m
theorem strN_lt (a : Nat) : strN a ≤ 3 := by unfold strN; split; omega; split; omega; split <;> omega
theorem kd_inj {s t : Nat} (hs : s ≤ 3) (ht : t ≤ 3) (h : kdOf s = kdOf t) : s = t := by
  rcases (show s = 0 ∨ s = 1 ∨ s = 2 ∨ s = 3 by omega) with rfl | rfl | rfl | rfl <;> rcases (show t = 0 ∨ t = 1 ∨ t = 2 ∨ t = 3 by omega) with rfl | rfl | rfl | rfl <;> revert h <;> decide
theorem kd_str {s : Nat} (hs : s ≤ 3) : strN (kdOf s) = s := by
  rcases (show s = 0 ∨ s = 1 ∨ s = 2 ∨ s = 3 by omega) with rfl | rfl | rfl | rfl <;> decide
theorem kd_lt (s : Nat) : kdOf s < 4294967296 := by unfold kdOf; split; omega; split; omega; split <;> omega
theorem stg_kd {s t : Nat} (hs : s ≤ 3) (ht : t ≤ 3) : stg (kdOf s) (kdOf t) = if s < t then kdOf t else kdOf s := by unfold stg; rw [kd_str hs, kd_str ht]
theorem swo : SWO (ltOf cf) := by
  have hd : ∀ x y : RV, ltOf cf x y = true ↔ x.1.m.num < y.1.m.num ∨ x.1.m.num = y.1.m.num ∧ strN y.1.m.act < strN x.1.m.act := fun x y => by
    unfold ltOf cf ordF
    rw [decide_eq_true_iff]
    by_cases h1 : x.1.m.num < y.1.m.num
    · simp [h1]
    · by_cases h2 : y.1.m.num < x.1.m.num
      · simp [h1, h2]; omega
      · by_cases h3 : strN y.1.m.act < strN x.1.m.act
        · simp [h1, h2, h3]; omega
        · by_cases h4 : strN x.1.m.act < strN y.1.m.act <;> simp [h1, h2, h3, h4]
  have hn : ∀ x y : RV, ltOf cf x y = false ↔ ¬ (x.1.m.num < y.1.m.num ∨ x.1.m.num = y.1.m.num ∧ strN y.1.m.act < strN x.1.m.act) := fun x y => by rw [← hd, Bool.not_eq_true]
  refine ⟨fun x => (hn x x).2 (by omega), fun x y z h1 h2 => ?_, fun x y z h1 h2 => ?_⟩
  · rw [hd] at *; omega
  · rw [hn] at *; omega
set_option maxHeartbeats 4000000 in
theorem order_any (x y : RuleV) (hx : x.m.num < 4294967296 ∧ x.m.act < 4294967296) (hy : y.m.num < 4294967296 ∧ y.m.act < 4294967296) (W : World) :
    Calls Tryz.prog 24 #[.agg x.cells.toArray, .agg y.cells.toArray] W fun e w' => e = .returned (.int .i64 (ordF x.m y.m)) ∧ ∃ q os', w' = grow (W.drewN q) os' := by
  obtain ⟨⟨n, a, cs⟩, A, cp⟩ := x
  obtain ⟨⟨n', a', cs'⟩, A', cp'⟩ := y
  show Calls Tryz.prog 24 #[.agg #[.int .u32 n, .int .u32 a, .slice A cs.length cp], .agg #[.int .u32 n', .int .u32 a', .slice A' cs'.length cp']] W fun e w' => e = .returned (.int .i64 (ordF ⟨n, a, cs⟩ ⟨n', a', cs'⟩)) ∧ ∃ q os', w' = grow (W.drewN q) os'
  generalize cs.length = z
  generalize cs'.length = z'
  have hc := compare_any (n : Int) (n' : Int)
  have hk := fun w => kind_any a w hx.2
  have hk' := fun w => kind_any a' w hy.2
  have hs := fun w => stronger_any (kdOf (strN a)) (kdOf (strN a')) w (kd_lt _) (kd_lt _)
  have b1 := strN_lt a
  have b2 := strN_lt a'
  simp only [stg_kd b1 b2] at hs
  by_cases h1 : n < n'
  · have e0 : ordF ⟨n, a, cs⟩ ⟨n', a', cs'⟩ = -1 := by simp [ordF, h1]
    simp only [show ((n : Int) < (n' : Int)) from by omega, if_true] at hc
    rw [e0]
    go_enter Tryz.func24, Tryz.ntmps24
    go_wp2_with (go_at_call 43; refine (hc _).mono ?_; rintro e w1 ⟨rfl, rfl⟩)
    go_ret
    exact ⟨rfl, 0, _, by rw [alloc_eq_grow, alloc_eq_grow, grow_grow]; rfl⟩
  · by_cases h2 : n' < n
    · have e0 : ordF ⟨n, a, cs⟩ ⟨n', a', cs'⟩ = 1 := by simp [ordF, h1, h2]
      simp only [show ¬ ((n : Int) < (n' : Int)) from by omega, show ((n' : Int) < (n : Int)) from by omega, if_true, if_false] at hc
      rw [e0]
      go_enter Tryz.func24, Tryz.ntmps24
      go_wp2_with (go_at_call 43; refine (hc _).mono ?_; rintro e w1 ⟨rfl, rfl⟩)
      go_ret
      exact ⟨rfl, 0, _, by rw [alloc_eq_grow, alloc_eq_grow, grow_grow]; rfl⟩
    · simp only [show ¬ ((n : Int) < (n' : Int)) from by omega, show ¬ ((n' : Int) < (n : Int)) from by omega, if_false] at hc
      have e0 : ordF ⟨n, a, cs⟩ ⟨n', a', cs'⟩ = if strN a' < strN a then -1 else if strN a < strN a' then 1 else 0 := by simp [ordF, h1, h2]
      rw [e0]
      have hi : kdOf (strN a) = kdOf (strN a') ↔ strN a = strN a' := ⟨kd_inj b1 b2, fun h => by rw [h]⟩
      generalize kdOf (strN a) = ka at hk hs hi
      generalize kdOf (strN a') = kb at hk' hs hi
      clear b1 b2 e0
      by_cases h3 : strN a = strN a'
      · rw [if_neg (by omega), if_neg (by omega)]
        obtain rfl : ka = kb := hi.2 h3
        clear hs hi h3 h1 h2 hx hy
        go_enter Tryz.func24, Tryz.ntmps24
        go_wp2_with (go_at_call 43; refine (hc _).mono ?_; rintro e w1 ⟨rfl, rfl⟩)
        go_cut [6, 7] from 16 to 21 (fun s6 s7 wx => s6 = .int .u32 ka ∧ s7 = .int .u32 ka ∧ ∃ q os', wx = grow (W.drewN q) os')
        case first =>
          go_region_with (go_at_call 44; first | (with_reducible refine (hk _).mono ?_; rintro e w1 ⟨rfl, rfl⟩) | (with_reducible refine (hk' _).mono ?_; rintro e w1 ⟨rfl, rfl⟩))
          all_goals (go_wp2_with fail; go_meet; case rel => exact ⟨rfl, rfl, 1, _, by rw [alloc_eq_grow, alloc_eq_grow, grow_grow]; rfl⟩)
        obtain ⟨rfl, rfl, hgw⟩ := hcut
        go_wp2_with fail
        go_ret
        exact ⟨rfl, hgw⟩
      · have hq : ¬ (ka : Int) = (kb : Int) := fun h => h3 (hi.1 (by omega))
        by_cases h4 : strN a < strN a'
        · rw [if_neg (by omega), if_pos h4]
          simp only [h4, if_true] at hs
          have hq2 : ¬ (kb : Int) = (ka : Int) := fun h => hq h.symm
          clear hi h3 h4 h1 h2 hx hy
          go_enter Tryz.func24, Tryz.ntmps24
          go_wp2_with (go_at_call 43; refine (hc _).mono ?_; rintro e w1 ⟨rfl, rfl⟩)
          go_cut [6, 7] from 16 to 21 (fun s6 s7 wx => s6 = .int .u32 ka ∧ s7 = .int .u32 kb ∧ ∃ q os', wx = grow (W.drewN q) os')
          case first =>
            go_region_with (go_at_call 44; first | (with_reducible refine (hk _).mono ?_; rintro e w1 ⟨rfl, rfl⟩) | (with_reducible refine (hk' _).mono ?_; rintro e w1 ⟨rfl, rfl⟩))
            all_goals (go_wp2_with fail; go_meet; case rel => exact ⟨rfl, rfl, 1, _, by rw [alloc_eq_grow, alloc_eq_grow, grow_grow]; rfl⟩)
          obtain ⟨rfl, rfl, hgw⟩ := hcut
          go_wp2_with (go_at_call 45; refine (hs _).mono ?_; rintro e w1 ⟨rfl, rfl⟩)
          go_ret
          exact ⟨rfl, hgw⟩
        · rw [if_pos (by omega)]
          simp only [h4, if_false] at hs
          clear hi h3 h4 h1 h2 hx hy
          go_enter Tryz.func24, Tryz.ntmps24
          go_wp2_with (go_at_call 43; refine (hc _).mono ?_; rintro e w1 ⟨rfl, rfl⟩)
          go_cut [6, 7] from 16 to 21 (fun s6 s7 wx => s6 = .int .u32 ka ∧ s7 = .int .u32 kb ∧ ∃ q os', wx = grow (W.drewN q) os')
          case first =>
            go_region_with (go_at_call 44; first | (with_reducible refine (hk _).mono ?_; rintro e w1 ⟨rfl, rfl⟩) | (with_reducible refine (hk' _).mono ?_; rintro e w1 ⟨rfl, rfl⟩))
            all_goals (go_wp2_with fail; go_meet; case rel => exact ⟨rfl, rfl, 1, _, by rw [alloc_eq_grow, alloc_eq_grow, grow_grow]; rfl⟩)
          obtain ⟨rfl, rfl, hgw⟩ := hcut
          go_wp2_with (go_at_call 45; refine (hs _).mono ?_; rintro e w1 ⟨rfl, rfl⟩)
          go_ret
          exact ⟨rfl, hgw⟩
theorem cmpLays (blk off size : Nat) (w : World) : CmpLays Tryz.prog 24 #[] RV.enc 3 cf blk off size w :=
  fun _ _ _ _ x y => order_any x.1 y.1 x.2 y.2 _
end Go.Proofs.YtcageojoafkojaaGreat.Ir
namespace Go.Proofs.YtcageojoafkojaaGreat.Ir
open Go.RowKit Go.Shelf Go.Sort
theorem never_any (c : CondM) (w : World) (hc : c.ok) : Calls Tryz.prog 73 #[.agg c.cells.toArray] w fun e w' => e = .returned (.bool (neverB c)) ∧ ∃ os, w' = grow w os := by
  obtain ⟨a, o, m, v⟩ := c
  show Calls Tryz.prog 73 #[.agg #[.int .i64 a, .int .u8 o, .int .u64 m, .int .u64 v]] w fun e w' => e = .returned (.bool (neverB ⟨a, o, m, v⟩)) ∧ ∃ os, w' = grow w os
  have e0 : neverB ⟨a, o, m, v⟩ = decide (o = 3 ∧ v = 0 ∨ o = 5 ∧ v = 18446744073709551615) := rfl
  rw [e0]
  by_cases h1 : (o : Int) = 3 <;> by_cases h2 : (v : Int) = 0 <;> by_cases h3 : (o : Int) = 5 <;> by_cases h4 : (v : Int) = 18446744073709551615 <;> first | (exfalso; omega) | skip
  all_goals
    first | rw [decide_eq_true (show o = 3 ∧ v = 0 ∨ o = 5 ∧ v = 18446744073709551615 by omega)] | rw [decide_eq_false (show ¬ (o = 3 ∧ v = 0 ∨ o = 5 ∧ v = 18446744073709551615) by omega)]
    clear e0 hc
    go_enter Tryz.func73, Tryz.ntmps73
    go_wp2
    go_ret
    exact ⟨by first | rfl | simp_all, _, by rw [alloc_eq_grow]⟩
theorem always_any (c : CondM) (w : World) (hc : c.ok) : Calls Tryz.prog 74 #[.agg c.cells.toArray] w fun e w' => e = .returned (.bool (alwaysB c)) ∧ ∃ os, w' = grow w os := by
  obtain ⟨a, o, m, v⟩ := c
  show Calls Tryz.prog 74 #[.agg #[.int .i64 a, .int .u8 o, .int .u64 m, .int .u64 v]] w fun e w' => e = .returned (.bool (alwaysB ⟨a, o, m, v⟩)) ∧ ∃ os, w' = grow w os
  have e0 : alwaysB ⟨a, o, m, v⟩ = decide (0 ≤ a ∧ a ≤ 5 ∧ (o = 6 ∧ v = 0 ∨ o = 4 ∧ v = 18446744073709551615)) := rfl
  rw [e0]
  by_cases ha : a < 0
  · rw [decide_eq_false (by omega)]
    clear e0 hc
    go_enter Tryz.func74, Tryz.ntmps74
    go_wp2
    go_ret
    exact ⟨by first | rfl | simp_all, _, by rw [alloc_eq_grow]⟩
  by_cases hb : 6 ≤ a
  · rw [decide_eq_false (by omega)]
    clear e0 hc
    go_enter Tryz.func74, Tryz.ntmps74
    go_wp2
    go_ret
    exact ⟨by first | rfl | simp_all, _, by rw [alloc_eq_grow]⟩
  have ha2 : 0 ≤ a := by omega
  have hb2 : a ≤ 5 := by omega
  by_cases h1 : (o : Int) = 6 <;> by_cases h2 : (v : Int) = 0 <;> by_cases h3 : (o : Int) = 4 <;> by_cases h4 : (v : Int) = 18446744073709551615 <;> first | (exfalso; omega) | skip
  all_goals
    first | rw [decide_eq_true (show 0 ≤ a ∧ a ≤ 5 ∧ (o = 6 ∧ v = 0 ∨ o = 4 ∧ v = 18446744073709551615) by omega)] | rw [decide_eq_false (show ¬ (0 ≤ a ∧ a ≤ 5 ∧ (o = 6 ∧ v = 0 ∨ o = 4 ∧ v = 18446744073709551615)) by omega)]
    clear e0 hc
    go_enter Tryz.func74, Tryz.ntmps74
    go_wp2
    go_ret
    exact ⟨by first | rfl | simp_all, _, by rw [alloc_eq_grow]⟩
end Go.Proofs.YtcageojoafkojaaGreat.Ir
namespace Go.Proofs.YtcageojoafkojaaGreat
open Go.RowKit
def Same9 (v : Value) (w : World) (e : Ending) (w' : World) : Prop := e = .returned v ∧ w = w'
end Go.Proofs.YtcageojoafkojaaGreat
namespace Go.Proofs.YtcageojoafkojaaGreat
open Go.RowKit
/-- A number has a bit that another one hasn't. -/
theorem bits_left (a b : Nat) (ha : a < 18446744073709551616) (hb : b < 18446744073709551616) : (a &&& (18446744073709551615 - b) = 0) ↔ a &&& b = a := by
  have e : 18446744073709551615 - b = 2 ^ 64 - (b + 1) := by have : (2 : Nat) ^ 64 = 18446744073709551616 := by decide
                                                             omega
  have hb2 : b < 2 ^ 64 := by have : (2 : Nat) ^ 64 = 18446744073709551616 := by decide
                              omega
  rw [e]
  have hig : ∀ i, 64 ≤ i → a.testBit i = false := fun i hi => Nat.testBit_lt_two_pow (Nat.lt_of_lt_of_le ha (by have := Nat.pow_le_pow_right (show 2 > 0 by omega) hi; simpa using this))
  constructor
  · intro h
    apply Nat.eq_of_testBit_eq
    intro i
    have := congrArg (fun n => Nat.testBit n i) h
    simp only [Nat.testBit_and, Nat.testBit_two_pow_sub_succ hb2, Nat.zero_testBit] at this ⊢
    by_cases hi : i < 64
    · cases h1 : a.testBit i <;> cases h2 : b.testBit i <;> simp_all
    · rw [hig i (by omega)]; rfl
  · intro h
    apply Nat.eq_of_testBit_eq
    intro i
    have := congrArg (fun n => Nat.testBit n i) h
    simp only [Nat.testBit_and, Nat.testBit_two_pow_sub_succ hb2, Nat.zero_testBit] at this ⊢
    by_cases hi : i < 64
    · cases h1 : a.testBit i <;> cases h2 : b.testBit i <;> simp_all
    · rw [hig i (by omega)]; rfl

end Go.Proofs.YtcageojoafkojaaGreat
namespace Go.Proofs.YtcageojoafkojaaGreat
open Go.RowKit
end Go.Proofs.YtcageojoafkojaaGreat
namespace Go.Proofs.YtcageojoafkojaaGreat
open Go.RowKit

theorem cond_cells {w : World} {b o k : Nat} {l : List CondM} {x : CondM} (hc : ∀ k x, l[k]? = some x → ∀ j v, (CondM.cells x)[j]? = some v → w.cell? ⟨b, o + (k * 4 + j), none⟩ = some v) (h : l[k]? = some x) :
    w.cell? ⟨b, o + k * 4, none⟩ = some (.int .i64 x.arg) ∧ w.cell? ⟨b, o + k * 4 + 1, none⟩ = some (.int .u8 x.op) ∧ w.cell? ⟨b, o + k * 4 + 2, none⟩ = some (.int .u64 x.mask) ∧ w.cell? ⟨b, o + k * 4 + 3, none⟩ = some (.int .u64 x.val) :=
  ⟨by have := hc k x h 0 _ rfl; simpa using this, by have := hc k x h 1 _ rfl; simpa [Nat.add_assoc] using this, by have := hc k x h 2 _ rfl; simpa [Nat.add_assoc] using this, by have := hc k x h 3 _ rfl; simpa [Nat.add_assoc] using this⟩
end Go.Proofs.YtcageojoafkojaaGreat
namespace Go.Proofs.YtcageojoafkojaaGreat
open Go.RowKit
/-- The first things of a slice. -/
theorem Rd.take {α : Type} {f : α → List Value} {w : World} {z n : Nat} {A : Option Addr} {l : List α} (h : Rd w z n A (l.flatMap f)) (hf : ∀ x, (f x).length = z) (hz : 0 < z) (hl : l.length = n) (k : Nat) (hk : k ≤ n) : Rd w z k A ((l.take k).flatMap f) := by
  refine ⟨by rw [flatz_len f z hf, List.length_take, hl, Nat.min_eq_left hk], ?_⟩
  rcases Nat.eq_zero_or_pos k with h0 | h0
  · exact .inl h0
  · right
    obtain ⟨b, o, e, hb, hc⟩ := h.pos (by omega)
    refine ⟨b, o, e, hb, fun j u hu => hc j u ?_⟩
    have hj : j = j / z * z + j % z := by rw [Nat.mul_comm]; exact (Nat.div_add_mod j z).symm
    have hm : j % z < z := Nat.mod_lt _ hz
    rw [hj, flatz f z hf hz _ _ _ hm] at hu ⊢
    obtain ⟨x, hx, hv⟩ := Option.bind_eq_some_iff.1 hu
    rw [List.getElem?_take] at hx
    split at hx
    · rw [hx]; exact hv
    · cases hx
theorem one_alloc (w : World) (o : Obj) : Below w.heap.size w (w.alloc o) := (Below.refl _ _).alloc (Nat.le_refl _) _
end Go.Proofs.YtcageojoafkojaaGreat
namespace Go.Proofs.YtcageojoafkojaaGreat
open Go.RowKit
open Classical in
theorem wordB_of {s : Bs} {b : Bool} (hb : b = true ↔ wordP ⟨s.toArray⟩) : wordB s = b := by
  unfold wordB
  cases b with
  | true => exact decide_eq_true (hb.1 rfl)
  | false => exact decide_eq_false (fun h => by have := hb.2 h; cases this)
theorem cell_grown {w w' : World} {b o tb : Nat} {v : Value} (h : w.cell? ⟨b, o, none⟩ = some v) (g : w.grownBy w' (some tb)) (hb : b ≠ tb) : w'.cell? ⟨b, o, none⟩ = some v := by
  have hl : b < w.heap.size := by
    rcases Nat.lt_or_ge b w.heap.size with h' | h'
    · exact h'
    · simp [World.cell?, Array.getElem?_eq_none h'] at h
  rw [← h]
  unfold World.cell?
  rw [g.block b hl (fun e => hb (Option.some.inj e))]
theorem rule_cells {w : World} {b o k : Nat} {l : List RuleV} {x : RuleV} (hc : ∀ k x, l[k]? = some x → ∀ j v, (RuleV.cells x)[j]? = some v → w.cell? ⟨b, o + (k * 3 + j), none⟩ = some v) (h : l[k]? = some x) :
    w.cell? ⟨b, o + k * 3, none⟩ = some (.int .u32 x.m.num) ∧ w.cell? ⟨b, o + k * 3 + 1, none⟩ = some (.int .u32 x.m.act) ∧ w.cell? ⟨b, o + k * 3 + 2, none⟩ = some (.slice x.A x.m.conds.length x.cap) :=
  ⟨by have := hc k x h 0 _ rfl; simpa using this, by have := hc k x h 1 _ rfl; simpa [Nat.add_assoc] using this, by have := hc k x h 2 _ rfl; simpa [Nat.add_assoc] using this⟩
end Go.Proofs.YtcageojoafkojaaGreat
namespace Go.Proofs.YtcageojoafkojaaGreat
open Go.RowKit Go.WideElems
theorem un_drewP {w w' : World} (h : Below w.drew.heap.size w.drew w') : Below w.heap.size w w' := (below_drewN (Below.refl w.heap.size w) 1).trans h
/-- One condition behind a rule's row: what the append answers, what the store behind it leaves. -/
theorem XB.run {K : Kd} {ws wx : World} {xb : Nat} {a0 a1 cv : Value} {l : List CondM} (h : XB K ws wx xb a0 a1 cv l) (c : CondM) {t ty : TypeId} {zero : Value} {bytes : Nat}
    (hinfo : (Tryz.prog.info? K.tC).map (fun i => (i.zero, i.size, i.bytes)) = some (some zero, 4, bytes)) (hzs : zero.cells.size = 4) (ht : Tryz.prog.underlying t = some (.slice K.tC)) (hby : bytes ≤ 64) (_ : 0 < 4) (hl : l.length ≤ 1000) (news : Array Value) (hn : news.toList = K.fC c) (h1 : ∀ u ∈ K.fC c, u.oneCell' = true) :
    ∃ v' wb, (Builtin.append_ #[t, t] ty #[cv, .slice (some ⟨wx.heap.size, 0, none⟩) 1 1]).run Tryz.prog (wx.alloc (.cells news K.tC)) = .ok v' wb ∧
      Bk wb xb K.tR [a0, a1, cv] ∧ XB K ws (wb.setCell ⟨xb, 2, none⟩ v') xb a0 a1 v' (l ++ [c]) := by
  obtain ⟨i0, hi, hz0, hz1, hz2⟩ := info_parts hinfo
  have hk := h.kept (one_alloc wx (.cells news K.tC))
  have hB : Bk (wx.alloc (.cells news K.tC)) wx.heap.size K.tC (K.fC c) := Bk.new wx K.tC news (by rw [← hn])
  obtain ⟨v', wb, hr, ho, hg, _, _⟩ := run_append_own_at (P := Tryz.prog) (wx.alloc (.cells news K.tC)) ws.heap.size t ty K.tC i0 zero 4 bytes ht hi hz0 hz1 hz2 hzs (by decide) cv l.length (l.flatMap K.fC) hk.own ⟨wx.heap.size, 0, none⟩ 1 1 (K.fC c) (by rw [K.hC]) (fun j u hu => by rw [addr_at, Nat.zero_add]; exact hB.cell j hu) h1 (by unfold maxLen; omega) (by have : (l.length + 1) * bytes ≤ 1001 * 64 := Nat.mul_le_mul (by omega) hby; omega) (Nat.le_trans h.grow.size (by simp))
  obtain ⟨_, _, _, _, _, hty, _⟩ := own_typed hk.own
  exact ⟨v', wb, hr, hk.x.appended hg hty K.n1.symm, hk.add c ho hg⟩
theorem op_append {o : Oper} {a : Act} {w : World} {K : Act → World → Prop} {Q : Exit → Act → World → Prop} (s x : Operand) (t : TypeId) (ho : o.op = .call { callee := .builtin .append, args := #[s, x], argTypes := #[t, t] })
    (v y v' : Value) (w' : World) (hs : a.eval s = v) (hx : a.eval x = y) (hr : (Builtin.append_ #[t, t] o.type #[v, y]).run Tryz.prog w = .ok v' w') (h : K (a.put o.dst v') w') : Oper.wp Tryz.prog o a w K Q := by
  unfold Oper.wp execOp
  simp only [ho, resolve, invoke, builtin, Sem.run_bind, Sem.run_pure, Result.andThen_ok, List.map_toArray, List.map_cons, List.map_nil, hs, hx, hr]
  exact h
end Go.Proofs.YtcageojoafkojaaGreat
