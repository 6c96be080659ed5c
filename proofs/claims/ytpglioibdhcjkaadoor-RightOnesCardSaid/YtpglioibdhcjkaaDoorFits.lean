/- Fits. -/
import Derived.Test.YtpglioibdhcjkaaDoorLaws1
namespace Go.Proofs.YtpglioibdhcjkaaDoor
open Go.RowKit

theorem and_bit_hit (a m b : Nat) (h : a.testBit b = true) : (a &&& m) ||| 2 ^ b = a &&& (m ||| 2 ^ b) := by
  apply Nat.eq_of_testBit_eq
  intro k
  simp only [Nat.testBit_or, Nat.testBit_and, Nat.testBit_two_pow]
  by_cases e : b = k
  · subst e; simp [h]
  · simp [e]
theorem and_bit_miss (a m b : Nat) (h : a.testBit b = false) : a &&& m = a &&& (m ||| 2 ^ b) := by
  apply Nat.eq_of_testBit_eq
  intro k
  simp only [Nat.testBit_or, Nat.testBit_and, Nat.testBit_two_pow]
  by_cases e : b = k
  · subst e; simp [h]
  · simp [e]
theorem file_step (a m b m2 : Nat) (q : Int) (ha : a < 65536) (hb : b < 16) (hq : q = ((2 ^ b : Nat) : Int)) (hm : m ||| 2 ^ b = m2) :
    ((∀ w, Calls Tryd.prog 20 #[.int .u16 a, .int .u16 q] w fun e w' => e = .returned (.bool true) ∧ w = w') ∧ bits .or .u16 ((a &&& m : Nat) : Int) q = ((a &&& m2 : Nat) : Int)) ∨
    ((∀ w, Calls Tryd.prog 20 #[.int .u16 a, .int .u16 q] w fun e w' => e = .returned (.bool false) ∧ w = w') ∧ a &&& m = a &&& m2) := by
  subst hm hq
  have hp := pow_lt b hb
  have hc := fun w => has_any a (2 ^ b) w ha hp
  rw [hasB_bit] at hc
  cases h : a.testBit b
  · rw [h] at hc; exact .inr ⟨hc, and_bit_miss a m b h⟩
  · rw [h] at hc; exact .inl ⟨hc, by rw [u16_or_nat _ _ (Nat.lt_of_le_of_lt Nat.and_le_left ha) hp, and_bit_hit a m b h]⟩

set_option maxRecDepth 100000 in
set_option maxHeartbeats 400000 in
theorem fits_nat (a : Nat) (w : World) (ha : a < 65536) (h : NamesAt w) :
    Calls Tryd.prog 5 #[.int .u16 a] w fun e w' => e = .returned (.bool true) ∧ Below w.heap.size w w' := by
  have H := Lib.hid h
  clear h
  have ht := fun w => fits_any a true w ha
  have hf := fun w => fits_any a false w ha
  rw [show (a &&& if true then 2047 else 1031) = a % 2048 from Nat.and_two_pow_sub_one_eq_mod a 11] at ht
  rw [show (a &&& if false then 2047 else 1031) = a &&& 1031 from rfl] at hf
  have Ht := Lib.hid ht
  have Hf := Lib.hid hf
  have hml : ∀ m, a &&& m < 65536 := fun m => Nat.lt_of_le_of_lt Nat.and_le_left ha
  have Hml := Lib.hid hml
  clear ht hf hml
  go_enter Tryd.func5, Tryd.ntmps5
  go_wp2_with fail
  refine (awake_any _ H.out).mono ?_
  rintro e w1 ⟨rfl, hb1⟩
  have Hb1 := Lib.hid hb1
  clear hb1
  go_wp2_with fail
  go_loop [4, 12] (fun fv iv => ∃ (k m : Nat), k ≤ 4 ∧ iv = .int .i64 k ∧ fv = .int .u16 ((a &&& m : Nat) : Int) ∧ Hid (m = [0, 1, 3, 7, 1031].getD k 0)) (fun _ iv => 4 - (intOf iv).toNat)
  case atStart => exact ⟨0, 0, by omega, rfl, by simp, rfl⟩
  case round =>
    obtain ⟨k, m, hk, rfl, rfl, Hm⟩ := hrel
    have hl := Hml.out m
    rcases (by omega : k = 0 ∨ k = 1 ∨ k = 2 ∨ k = 3 ∨ k = 4) with rfl | rfl | rfl | rfl | rfl
    · rcases file_step a m 0 1 1 ha (by omega) rfl (by rw [Hm.out]; decide) with ⟨h1, h2⟩ | ⟨h1, h2⟩
      · have H1 := Lib.hid h1
        clear h1
        go_wp2_with (go_at_call 20; refine (H1.out _).mono ?_; rintro e w' ⟨rfl, rfl⟩)
        go_round
        case rel => exact ⟨1, 1, by omega, by go_num, by first | rfl | simp, rfl⟩
        case measure => simp [intOf]
      · have H1 := Lib.hid h1
        have H2 := Lib.hid h2
        clear h1 h2
        go_wp2_with (go_at_call 20; refine (H1.out _).mono ?_; rintro e w' ⟨rfl, rfl⟩)
        go_round
        case rel => exact ⟨1, 1, by omega, by go_num, by rw [H2.out], rfl⟩
        case measure => simp [intOf]
    · rcases file_step a m 1 3 2 ha (by omega) rfl (by rw [Hm.out]; decide) with ⟨h1, h2⟩ | ⟨h1, h2⟩
      · have H1 := Lib.hid h1
        clear h1
        go_wp2_with (go_at_call 20; refine (H1.out _).mono ?_; rintro e w' ⟨rfl, rfl⟩)
        go_round
        case rel => exact ⟨2, 3, by omega, by go_num, by first | rfl | simp, rfl⟩
        case measure => simp [intOf]
      · have H1 := Lib.hid h1
        have H2 := Lib.hid h2
        clear h1 h2
        go_wp2_with (go_at_call 20; refine (H1.out _).mono ?_; rintro e w' ⟨rfl, rfl⟩)
        go_round
        case rel => exact ⟨2, 3, by omega, by go_num, by rw [H2.out], rfl⟩
        case measure => simp [intOf]
    · rcases file_step a m 2 7 4 ha (by omega) rfl (by rw [Hm.out]; decide) with ⟨h1, h2⟩ | ⟨h1, h2⟩
      · have H1 := Lib.hid h1
        clear h1
        go_wp2_with (go_at_call 20; refine (H1.out _).mono ?_; rintro e w' ⟨rfl, rfl⟩)
        go_round
        case rel => exact ⟨3, 7, by omega, by go_num, by first | rfl | simp, rfl⟩
        case measure => simp [intOf]
      · have H1 := Lib.hid h1
        have H2 := Lib.hid h2
        clear h1 h2
        go_wp2_with (go_at_call 20; refine (H1.out _).mono ?_; rintro e w' ⟨rfl, rfl⟩)
        go_round
        case rel => exact ⟨3, 7, by omega, by go_num, by rw [H2.out], rfl⟩
        case measure => simp [intOf]
    · rcases file_step a m 10 1031 1024 ha (by omega) rfl (by rw [Hm.out]; decide) with ⟨h1, h2⟩ | ⟨h1, h2⟩
      · have H1 := Lib.hid h1
        clear h1
        go_wp2_with (go_at_call 20; refine (H1.out _).mono ?_; rintro e w' ⟨rfl, rfl⟩)
        go_round
        case rel => exact ⟨4, 1031, by omega, by go_num, by first | rfl | simp, rfl⟩
        case measure => simp [intOf]
      · have H1 := Lib.hid h1
        have H2 := Lib.hid h2
        clear h1 h2
        go_wp2_with (go_at_call 20; refine (H1.out _).mono ?_; rintro e w' ⟨rfl, rfl⟩)
        go_round
        case rel => exact ⟨4, 1031, by omega, by go_num, by rw [H2.out], rfl⟩
        case measure => simp [intOf]
    · obtain rfl : m = 1031 := Hm.out
      go_wp2_with fail
      refine (Ht.out _).mono ?_
      rintro e w' ⟨rfl, rfl⟩
      go_wp2_with fail
      refine (Hf.out _).mono ?_
      rintro e w' ⟨rfl, rfl⟩
      go_wp2_with fail
      go_ret
      exact ⟨by simp, Hb1.out.alloc Hb1.out.size _⟩

end Go.Proofs.YtpglioibdhcjkaaDoor
