/- The small ones: a bit, has, valid, fits, powers; each leaves the world as it was. -/
import Derived.Test.YtonpakndocgndaaGreatDoorProg
import Derived.WalkKit
import Derived.WalkSpells
import Derived.Lib.Hide
import Derived.Laws.BitsAllLaws
import Derived.Laws.ShiftsVarLaws
import Derived.IntWalk
import Derived.Lib.BitFns
import Derived.Deep.QuietTactic
import Derived.BigQuiet
namespace Go.Proofs.YtonpakndocgndaaGreatDoor.Rt
open Go.RowKit

def hasB (a b : Nat) : Bool := decide (a &&& b = b)
theorem ret_bool {a b : Bool} (h : a = b) : Ending.returned (.bool a) = .returned (.bool b) := by rw [h]
theorem ret_int {k : IntKind} {a b : Int} (h : a = b) : Ending.returned (.int k a) = .returned (.int k b) := by rw [h]
theorem pow_lt (i : Nat) (h : i < 16) : (2 : Nat) ^ i < 65536 := Nat.pow_lt_pow_right (by omega) h

theorem has_any (a b : Nat) (w : World) (ha : a < 65536) (hb : b < 65536) : Calls Tryz.prog 56 #[.int .u16 a, .int .u16 b] w fun e w' => e = .returned (.bool (hasB a b)) ∧ w = w' := by
  go_enter Tryz.func56, Tryz.ntmps56
  go_wp2
  go_ret
  refine ⟨ret_bool ?_, rfl⟩
  rw [u16_and_nat a b ha hb, Bool.eq_iff_iff]; simp [hasB]; omega
theorem valid_any (a : Nat) (w : World) (ha : a < 65536) : Calls Tryz.prog 22 #[.int .u16 a] w fun e w' => e = .returned (.bool (decide (a &&& 14336 = 0))) ∧ w = w' := by
  go_enter Tryz.func22, Tryz.ntmps22
  go_wp2
  go_ret
  refine ⟨ret_bool ?_, rfl⟩
  have e := u16_andNot_nat a 51199 ha (by omega)
  rw [show ((51199 : Nat) : Int) = 51199 from rfl] at e
  rw [e, Bool.eq_iff_iff]; simp
/-- How many bits. -/
def cnt (n : Nat) : Nat := ((List.range 16).filter n.testBit).length
theorem pop_eq : ∀ n : Fin 256, Lib.onesCount n.val = ((List.range 8).filter n.val.testBit).length := by decide +kernel
theorem cnt_eq (a : Nat) (h : a < 65536) : cnt a = Lib.onesCount (a / 256) + Lib.onesCount (a % 256) := by
  have e1 := pop_eq ⟨a / 256, by omega⟩
  have e2 := pop_eq ⟨a % 256, by omega⟩
  simp only at e1 e2
  have er : List.range 16 = List.range 8 ++ (List.range 8).map (· + 8) := by decide
  have e3 : cnt a = ((List.range 8).filter a.testBit).length + ((List.range 8).filter (a.testBit ∘ (· + 8))).length := by
    unfold cnt
    rw [er, List.filter_append, List.length_append, List.filter_map, List.length_map]
  have f1 : (List.range 8).filter (a.testBit ∘ (· + 8)) = (List.range 8).filter (a / 256).testBit := by
    apply List.filter_congr
    intro i hi
    show a.testBit (i + 8) = _
    rw [show (256 : Nat) = 2 ^ 8 from rfl, Nat.testBit_div_two_pow, Nat.add_comm]
  have f2 : (List.range 8).filter a.testBit = (List.range 8).filter (a % 256).testBit := by
    apply List.filter_congr
    intro i hi
    have : i < 8 := by simpa using hi
    rw [show (256 : Nat) = 2 ^ 8 from rfl, Nat.testBit_mod_two_pow, decide_eq_true this, Bool.true_and]
  rw [f1, f2] at e3
  omega
/-- 2 to a power, one by one. -/
theorem power_any (k : Nat) (w : World) (hk : k ≤ 16) : Calls Tryz.prog 48 #[.int .i64 k] w fun e w' => e = .returned (.int .i64 ((2 ^ k : Nat) : Int)) ∧ w = w' := by
  go_enter Tryz.func48, Tryz.ntmps48
  go_wp2
  go_loop [3, 4] (fun n i => ∃ j : Nat, j ≤ k ∧ i = .int .i64 j ∧ n = .int .i64 ((2 ^ j : Nat) : Int)) (fun _ i => k - (intOf i).toNat)
  case atStart => exact ⟨0, by omega, rfl, rfl⟩
  case round =>
    obtain ⟨j, hj, rfl, rfl⟩ := hrel
    have hp : (2 : Nat) ^ j ≤ 2 ^ 16 := Nat.pow_le_pow_right (by omega) (by omega)
    obtain ⟨p, hpe⟩ : ∃ p, p = (2 : Nat) ^ j := ⟨_, rfl⟩
    rw [← hpe] at hp ⊢
    have Hp := Lib.hid hpe
    clear hpe
    by_cases hlt : j < k
    · go_wp2
      go_round
      case rel => exact ⟨j + 1, by omega, by go_num, by rw [Nat.pow_succ, ← Hp.out]; go_num⟩
      case measure => simp [intOf]; omega
    · obtain rfl : j = k := by omega
      go_wp2
      go_ret
      exact ⟨ret_int (congrArg _ Hp.out), rfl⟩
theorem div_pow (a k : Nat) : (a / 2 ^ k % 2 = 1) ↔ a.testBit k = true := by
  rw [Nat.testBit_eq_decide_div_mod_eq]; simp
theorem refHas_any (a k : Nat) (w : World) (ha : a < 65536) (hk : k ≤ 15) : Calls Tryz.prog 47 #[.int .i64 a, .int .i64 k] w fun e w' => e = .returned (.bool (a.testBit k)) ∧ w = w' := by
  have hp := pow_lt k (by omega)
  have hp0 : 0 < (2 : Nat) ^ k := Nat.pow_pos (by omega)
  have hc := power_any k w (by omega)
  obtain ⟨p, hpe⟩ : ∃ p, p = (2 : Nat) ^ k := ⟨_, rfl⟩
  rw [← hpe] at hp hp0 hc
  have Hp := Lib.hid hpe
  clear hpe
  have hz : ((p : Int) == 0) = false := by simp; omega
  go_enter Tryz.func47, Tryz.ntmps47
  go_wp2_with (go_at_call 48; refine hc.mono ?_; rintro e w' ⟨rfl, rfl⟩)
  go_ret
  refine ⟨ret_bool ?_, rfl⟩
  have e1 : (a : Int) / (p : Int) = ((a / p : Nat) : Int) := (Int.natCast_ediv a p).symm
  have e2 : a / p ≤ a := Nat.div_le_self _ _
  have e3 : a.testBit k = decide (a / p % 2 = 1) := by rw [Nat.testBit_eq_decide_div_mod_eq, ← Hp.out]
  rw [e1, e3]
  obtain ⟨q, hq⟩ : ∃ q, q = a / p := ⟨_, rfl⟩
  rw [← hq] at e2 ⊢
  rw [IntWalk.wrap64_in _ (by omega), Int.tmod_eq_emod_of_nonneg (by omega), Bool.eq_iff_iff]
  simp
  omega
end Go.Proofs.YtonpakndocgndaaGreatDoor.Rt

