/- The small ones: which code is known; its class. -/
import Derived.Test.YthiohihbcfahhaaDoorProg
import Derived.Test.YthiohihbcfahhaaDoorMath
import Derived.WalkKit
import Derived.WalkSpells
import Derived.Lib.Hide
import Derived.Laws.BitsAllLaws
import Derived.Laws.ShiftsVarLaws
import Derived.IntWalk
import Derived.Lib.BitFns
import Derived.Deep.QuietTactic
import Derived.BigQuiet
namespace Go.Proofs.YthiohihbcfahhaaDoor
open Go.RowKit
theorem ret_bool {a b : Bool} (h : a = b) : Ending.returned (.bool a) = .returned (.bool b) := by rw [h]
theorem ret_int {k : IntKind} {a b : Int} (h : a = b) : Ending.returned (.int k a) = .returned (.int k b) := by rw [h]

theorem clear8 (n : Nat) (h : n < 65536) : n &&& 65527 = n - 8 * (n / 8 % 2) := by
  have h1 := Nat.and_div_two_pow (a := n) (b := 65527) (n := 4)
  have h2 := Nat.and_mod_two_pow (a := n) (b := 65527) (n := 4)
  simp only [Nat.reducePow, Nat.reduceDiv, Nat.reduceMod] at h1 h2
  have e1 := Nat.and_two_pow_sub_one_eq_mod (n / 16) 12
  have e2 := Nat.and_two_pow_sub_one_eq_mod (n % 16) 3
  simp only [Nat.reducePow, Nat.reduceSub] at e1 e2
  rw [e1] at h1
  rw [e2] at h2
  omega
theorem andNot8 (n : Nat) (h : n < 65536) : bits .andNot .u16 (n : Int) 8 = ((n - 8 * (n / 8 % 2) : Nat) : Int) := by
  have e := u16_andNot_nat n 8 h (by omega)
  rw [← clear8 n h]
  exact e
theorem hit_n {n c : Nat} (h : knownB c = true) (h2 : ((n : Int) == (c : Int)) = true) : true = knownB n := by
  have e : n = c := by
    simp at h2
    omega
  rw [e, h]
theorem hit_q {n q c : Nat} (hq : q = n - 8 * (n / 8 % 2)) (h : knownB c = true) (h1 : knownB (c + 8) = true) (h2 : ((q : Int) == (c : Int)) = true) : true = knownB n := by
  have e : q = c := by
    simp at h2
    omega
  rcases (by omega : n = c ∨ n = c + 8) with rfl | rfl
  · rw [h]
  · rw [h1]
set_option maxRecDepth 100000 in
set_option maxHeartbeats 1000000 in
theorem known_any (n : Nat) (w : World) (h : n < 65536) : Calls Tryd.prog 15 #[.int .u16 n] w fun e w' => e = .returned (.bool (knownB n)) ∧ w = w' := by
  obtain ⟨q, hq⟩ : ∃ q, q = n - 8 * (n / 8 % 2) := ⟨_, rfl⟩
  have hb := andNot8 n h
  rw [← hq] at hb
  have H := Lib.hid hq
  clear hq
  go_enter Tryd.func15, Tryd.ntmps15
  go_wp2
  all_goals
    go_ret
    refine ⟨ret_bool ?_, rfl⟩
    first
      | exact hit_n (by rfl) ‹((n : Int) == 32) = true›
      | exact hit_n (by rfl) ‹((n : Int) == 0) = true›
      | exact hit_n (by rfl) ‹((n : Int) == 96) = true›
      | exact hit_n (by rfl) ‹((n : Int) == 128) = true›
      | exact hit_n (by rfl) ‹((n : Int) == 1) = true›
      | exact hit_n (by rfl) ‹((n : Int) == 97) = true›
      | exact hit_n (by rfl) ‹((n : Int) == 129) = true›
      | exact hit_n (by rfl) ‹((n : Int) == 2) = true›
      | exact hit_n (by rfl) ‹((n : Int) == 3) = true›
      | exact hit_n (by rfl) ‹((n : Int) == 6) = true›
      | exact hit_n (by rfl) ‹((n : Int) == 22) = true›
      | exact hit_n (by rfl) ‹((n : Int) == 7) = true›
      | exact hit_n (by rfl) ‹((n : Int) == 135) = true›
      | exact hit_n (by rfl) ‹((n : Int) == 5) = true›
      | exact hit_n (by rfl) ‹((n : Int) == 132) = true›
      | exact hit_q H.out (by rfl) (by rfl) ‹((q : Int) == 4) = true›
      | exact hit_q H.out (by rfl) (by rfl) ‹((q : Int) == 20) = true›
      | exact hit_q H.out (by rfl) (by rfl) ‹((q : Int) == 36) = true›
      | exact hit_q H.out (by rfl) (by rfl) ‹((q : Int) == 52) = true›
      | exact hit_q H.out (by rfl) (by rfl) ‹((q : Int) == 68) = true›
      | exact hit_q H.out (by rfl) (by rfl) ‹((q : Int) == 84) = true›
      | exact hit_q H.out (by rfl) (by rfl) ‹((q : Int) == 100) = true›
      | exact hit_q H.out (by rfl) (by rfl) ‹((q : Int) == 116) = true›
      | exact hit_q H.out (by rfl) (by rfl) ‹((q : Int) == 164) = true›
      | exact hit_q H.out (by rfl) (by rfl) ‹((q : Int) == 21) = true›
      | exact hit_q H.out (by rfl) (by rfl) ‹((q : Int) == 37) = true›
      | exact hit_q H.out (by rfl) (by rfl) ‹((q : Int) == 53) = true›
      | exact hit_q H.out (by rfl) (by rfl) ‹((q : Int) == 69) = true›
      | (have hq := H.out
         simp only [beq_eq_false_iff_ne, ne_eq] at *
         symm
         refine known_false n ?_
         omega)
theorem class_any (n : Nat) (w : World) (h : n < 65536) : Calls Tryd.prog 37 #[.int .u16 n] w fun e w' => e = .returned (.int .u16 ((n % 8 : Nat) : Int)) ∧ w = w' := by
  go_enter Tryd.func37, Tryd.ntmps37
  go_wp2
  go_ret
  exact ⟨ret_int (by rw [show ((7 : Int)) = ((7 : Nat) : Int) from rfl, u16_and_nat n 7 h (by omega), Nat.and_two_pow_sub_one_eq_mod n 3]), rfl⟩
end Go.Proofs.YthiohihbcfahhaaDoor

