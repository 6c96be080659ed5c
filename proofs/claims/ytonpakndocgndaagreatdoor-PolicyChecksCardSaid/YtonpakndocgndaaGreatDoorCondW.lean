/- Whether a condition may be: the program's way and the document's. -/
import Derived.Test.YtonpakndocgndaaGreatDoorPolM
import Derived.Test.YtonpakndocgndaaGreatDoorAwake9
import Derived.Laws.BitsAllLaws
namespace Go.Proofs.YtonpakndocgndaaGreatDoor
open Go.RowKit
def RetE (n : Nat) (w : World) (e : Ending) (w' : World) : Prop := e = .returned (.int .i64 n) ∧ Below w.heap.size w w'
theorem ret_of {n k : Nat} {w w' : World} {e : Ending} (h : n = k) (he : e = .returned (.int .i64 k)) (hb : Below w.heap.size w w') : RetE n w e w' := by subst h; exact ⟨he, hb⟩
theorem known_any (op : Nat) (w : World) : Calls Tryz.prog 32 #[.int .u8 op] w (Same9 (.bool (decide (1 ≤ op ∧ op ≤ 7))) w) := by
  by_cases h1 : 1 ≤ op
  · have g1 : (1 : Int) ≤ (op : Int) := by omega
    have d1 : decide ((1 : Int) ≤ (op : Int)) = true := decide_eq_true g1
    by_cases h2 : op ≤ 7
    · have g2 : (op : Int) ≤ 7 := by omega
      have d2 : decide ((op : Int) ≤ 7) = true := decide_eq_true g2
      rw [decide_eq_true (show 1 ≤ op ∧ op ≤ 7 from ⟨h1, h2⟩)]
      clear h1 h2
      go_enter Tryz.func32, Tryz.ntmps32
      go_wp2
      go_ret
      exact ⟨rfl, rfl⟩
    · have g2 : ¬ (op : Int) ≤ 7 := by omega
      have d2 : decide ((op : Int) ≤ 7) = false := decide_eq_false g2
      rw [decide_eq_false (show ¬ (1 ≤ op ∧ op ≤ 7) from fun h => h2 h.2)]
      clear h1 h2
      go_enter Tryz.func32, Tryz.ntmps32
      go_wp2
      go_ret
      exact ⟨rfl, rfl⟩
  · have g1 : ¬ (1 : Int) ≤ (op : Int) := by omega
    have d1 : decide ((1 : Int) ≤ (op : Int)) = false := decide_eq_false g1
    rw [decide_eq_false (show ¬ (1 ≤ op ∧ op ≤ 7) from fun h => h1 h.1)]
    clear h1
    go_enter Tryz.func32, Tryz.ntmps32
    go_wp2
    go_ret
    exact ⟨rfl, rfl⟩
/-- A number has a bit that another one hasn't. -/
theorem bits_left (a b : Nat) (ha : a < 18446744073709551616) (hb : b < 18446744073709551616) : (a &&& (18446744073709551615 - b) = 0) ↔ a &&& b = a := by
  have e : 18446744073709551615 - b = 2 ^ 64 - (b + 1) := by have : (2 : Nat) ^ 64 = 18446744073709551616 := by decide
                                                             omega
  have hb2 : b < 2 ^ 64 := by have : (2 : Nat) ^ 64 = 18446744073709551616 := by decide
                              omega
  rw [e]
  have hig : ∀ i, 64 ≤ i → a.testBit i = false := fun i hi => Nat.testBit_lt_two_pow (Nat.lt_of_lt_of_le ha (by have := Nat.pow_le_pow_right (show 2 > 0 by omega) hi; simpa using this))
  constructor
  · intro h
    apply Nat.eq_of_testBit_eq
    intro i
    have := congrArg (fun n => Nat.testBit n i) h
    simp only [Nat.testBit_and, Nat.testBit_two_pow_sub_succ hb2, Nat.zero_testBit] at this ⊢
    by_cases hi : i < 64
    · cases h1 : a.testBit i <;> cases h2 : b.testBit i <;> simp_all
    · rw [hig i (by omega)]; rfl
  · intro h
    apply Nat.eq_of_testBit_eq
    intro i
    have := congrArg (fun n => Nat.testBit n i) h
    simp only [Nat.testBit_and, Nat.testBit_two_pow_sub_succ hb2, Nat.zero_testBit] at this ⊢
    by_cases hi : i < 64
    · cases h1 : a.testBit i <;> cases h2 : b.testBit i <;> simp_all
    · rw [hig i (by omega)]; rfl

theorem cond_ways (arg : Int) (op mask val : Nat) : (arg < 0) ∨ (5 < arg) ∨ (0 ≤ arg ∧ arg ≤ 5 ∧ op < 1) ∨ (0 ≤ arg ∧ arg ≤ 5 ∧ 7 < op) ∨ (0 ≤ arg ∧ arg ≤ 5 ∧ 1 ≤ op ∧ op ≤ 6 ∧ mask ≠ 0) ∨ (0 ≤ arg ∧ arg ≤ 5 ∧ 1 ≤ op ∧ op ≤ 6 ∧ mask = 0) ∨ (0 ≤ arg ∧ arg ≤ 5 ∧ op = 7 ∧ mask = 0) ∨ (0 ≤ arg ∧ arg ≤ 5 ∧ op = 7 ∧ mask ≠ 0 ∧ val &&& mask ≠ val) ∨ (0 ≤ arg ∧ arg ≤ 5 ∧ op = 7 ∧ mask ≠ 0 ∧ val &&& mask = val) := by
  by_cases h1 : arg < 0
  · exact .inl h1
  by_cases h2 : 5 < arg
  · exact .inr (.inl h2)
  by_cases h3 : op < 1
  · exact .inr (.inr (.inl ⟨by omega, by omega, h3⟩))
  by_cases h4 : 7 < op
  · exact .inr (.inr (.inr (.inl ⟨by omega, by omega, h4⟩)))
  by_cases h5 : op = 7
  · by_cases h6 : mask = 0
    · exact .inr (.inr (.inr (.inr (.inr (.inr (.inl ⟨by omega, by omega, h5, h6⟩))))))
    · by_cases h7 : val &&& mask = val
      · exact .inr (.inr (.inr (.inr (.inr (.inr (.inr (.inr ⟨by omega, by omega, h5, h6, h7⟩)))))))
      · exact .inr (.inr (.inr (.inr (.inr (.inr (.inr (.inl ⟨by omega, by omega, h5, h6, h7⟩)))))))
  · by_cases h6 : mask = 0
    · exact .inr (.inr (.inr (.inr (.inr (.inl ⟨by omega, by omega, by omega, by omega, h6⟩)))))
    · exact .inr (.inr (.inr (.inr (.inl ⟨by omega, by omega, by omega, by omega, h6⟩))))
set_option maxHeartbeats 2000000 in
set_option maxRecDepth 100000 in
theorem condCheck_any (arg : Int) (op mask val : Nat) (w : World) (hm : mask < 18446744073709551616) (hv : val < 18446744073709551616) : Calls Tryz.prog 11 #[.agg #[.int .i64 arg, .int .u8 op, .int .u64 mask, .int .u64 val]] w (RetE (condE ⟨arg, op, mask, val⟩) w) := by
  have HB := Lib.hid (show Below w.heap.size w (w.alloc (.cells #[.int .i64 arg, .int .u8 op, .int .u64 mask, .int .u64 val] 39)) from (Below.refl _ _).alloc (Nat.le_refl _) _)
  rcases cond_ways arg op mask val with hA | hA | hA | hA | hA | hA | hA | hA | hA
  · have HV := Lib.hid (show condE ⟨arg, op, mask, val⟩ = 204 by unfold condE; simp only; split <;> (try omega) <;> split <;> (try omega) <;> split <;> (try omega) <;> split <;> (try omega) <;> simp_all)
    have a1 : arg < 0 := by omega
    have da1 : decide (arg < 0) = true := decide_eq_true a1
    clear hA hm hv
    go_enter Tryz.func11, Tryz.ntmps11
    go_wp2_with fail
    go_ret
    exact ret_of HV.out rfl HB.out
  · have HV := Lib.hid (show condE ⟨arg, op, mask, val⟩ = 204 by unfold condE; simp only; split <;> (try omega) <;> split <;> (try omega) <;> split <;> (try omega) <;> split <;> (try omega) <;> simp_all)
    have a1 : ¬ arg < 0 := by omega
    have da1 : decide (arg < 0) = false := decide_eq_false a1
    have a2 : (6 : Int) ≤ arg := by omega
    have da2 : decide ((6 : Int) ≤ arg) = true := decide_eq_true a2
    have a3 : (5 : Int) < arg := by omega
    have da3 : decide ((5 : Int) < arg) = true := decide_eq_true a3
    clear hA hm hv
    go_enter Tryz.func11, Tryz.ntmps11
    go_wp2_with fail
    go_ret
    exact ret_of HV.out rfl HB.out
  · have HV := Lib.hid (show condE ⟨arg, op, mask, val⟩ = 210 by unfold condE; simp only; split <;> (try omega) <;> split <;> (try omega) <;> split <;> (try omega) <;> split <;> (try omega) <;> simp_all)
    have a1 : ¬ arg < 0 := by omega
    have da1 : decide (arg < 0) = false := decide_eq_false a1
    have a2 : ¬ (6 : Int) ≤ arg := by omega
    have da2 : decide ((6 : Int) ≤ arg) = false := decide_eq_false a2
    have a3 : ¬ (5 : Int) < arg := by omega
    have da3 : decide ((5 : Int) < arg) = false := decide_eq_false a3
    have hk : decide (1 ≤ op ∧ op ≤ 7) = false := decide_eq_false (by omega)
    have o1 : (op : Int) < 1 := by omega
    have do1 : decide ((op : Int) < 1) = true := decide_eq_true o1
    clear hA hm hv
    have hkn := fun W => known_any op W
    rw [hk] at hkn
    clear hk
    go_enter Tryz.func11, Tryz.ntmps11
    go_wp2_with fail
    refine (hkn _).mono ?_
    rintro e w' ⟨rfl, rfl⟩
    clear hkn
    go_wp2_with fail
    go_ret
    exact ret_of HV.out rfl HB.out
  · have HV := Lib.hid (show condE ⟨arg, op, mask, val⟩ = 210 by unfold condE; simp only; split <;> (try omega) <;> split <;> (try omega) <;> split <;> (try omega) <;> split <;> (try omega) <;> simp_all)
    have a1 : ¬ arg < 0 := by omega
    have da1 : decide (arg < 0) = false := decide_eq_false a1
    have a2 : ¬ (6 : Int) ≤ arg := by omega
    have da2 : decide ((6 : Int) ≤ arg) = false := decide_eq_false a2
    have a3 : ¬ (5 : Int) < arg := by omega
    have da3 : decide ((5 : Int) < arg) = false := decide_eq_false a3
    have hk : decide (1 ≤ op ∧ op ≤ 7) = false := decide_eq_false (by omega)
    have o1 : ¬ (op : Int) < 1 := by omega
    have do1 : decide ((op : Int) < 1) = false := decide_eq_false o1
    have o2 : (7 : Int) < (op : Int) := by omega
    have do2 : decide ((7 : Int) < (op : Int)) = true := decide_eq_true o2
    clear hA hm hv
    have hkn := fun W => known_any op W
    rw [hk] at hkn
    clear hk
    go_enter Tryz.func11, Tryz.ntmps11
    go_wp2_with fail
    refine (hkn _).mono ?_
    rintro e w' ⟨rfl, rfl⟩
    clear hkn
    go_wp2_with fail
    go_ret
    exact ret_of HV.out rfl HB.out
  · have HV := Lib.hid (show condE ⟨arg, op, mask, val⟩ = 203 by unfold condE; simp only; split <;> (try omega) <;> split <;> (try omega) <;> split <;> (try omega) <;> split <;> (try omega) <;> simp_all)
    have a1 : ¬ arg < 0 := by omega
    have da1 : decide (arg < 0) = false := decide_eq_false a1
    have a2 : ¬ (6 : Int) ≤ arg := by omega
    have da2 : decide ((6 : Int) ≤ arg) = false := decide_eq_false a2
    have a3 : ¬ (5 : Int) < arg := by omega
    have da3 : decide ((5 : Int) < arg) = false := decide_eq_false a3
    have hk : decide (1 ≤ op ∧ op ≤ 7) = true := decide_eq_true (by omega)
    have o1 : ¬ (op : Int) < 1 := by omega
    have do1 : decide ((op : Int) < 1) = false := decide_eq_false o1
    have o2 : ¬ (7 : Int) < (op : Int) := by omega
    have do2 : decide ((7 : Int) < (op : Int)) = false := decide_eq_false o2
    have o3 : ((op : Int) != 7) = true := by rw [bne_iff_ne]; omega
    have o4 : ((op : Int) == 7) = false := by rw [beq_eq_false_iff_ne]; omega
    have m1 : ((mask : Int) != 0) = true := by rw [bne_iff_ne]; omega
    have m2 : ((mask : Int) == 0) = false := by rw [beq_eq_false_iff_ne]; omega
    clear hA hm hv
    have hkn := fun W => known_any op W
    rw [hk] at hkn
    clear hk
    go_enter Tryz.func11, Tryz.ntmps11
    go_wp2_with fail
    refine (hkn _).mono ?_
    rintro e w' ⟨rfl, rfl⟩
    clear hkn
    go_wp2_with fail
    go_ret
    exact ret_of HV.out rfl HB.out
  · have HV := Lib.hid (show condE ⟨arg, op, mask, val⟩ = 0 by unfold condE; simp only; split <;> (try omega) <;> split <;> (try omega) <;> split <;> (try omega) <;> split <;> (try omega) <;> simp_all)
    have a1 : ¬ arg < 0 := by omega
    have da1 : decide (arg < 0) = false := decide_eq_false a1
    have a2 : ¬ (6 : Int) ≤ arg := by omega
    have da2 : decide ((6 : Int) ≤ arg) = false := decide_eq_false a2
    have a3 : ¬ (5 : Int) < arg := by omega
    have da3 : decide ((5 : Int) < arg) = false := decide_eq_false a3
    have hk : decide (1 ≤ op ∧ op ≤ 7) = true := decide_eq_true (by omega)
    have o1 : ¬ (op : Int) < 1 := by omega
    have do1 : decide ((op : Int) < 1) = false := decide_eq_false o1
    have o2 : ¬ (7 : Int) < (op : Int) := by omega
    have do2 : decide ((7 : Int) < (op : Int)) = false := decide_eq_false o2
    have o3 : ((op : Int) != 7) = true := by rw [bne_iff_ne]; omega
    have o4 : ((op : Int) == 7) = false := by rw [beq_eq_false_iff_ne]; omega
    obtain rfl : mask = 0 := by omega
    clear hA hm hv
    have hkn := fun W => known_any op W
    rw [hk] at hkn
    clear hk
    go_enter Tryz.func11, Tryz.ntmps11
    go_wp2_with fail
    refine (hkn _).mono ?_
    rintro e w' ⟨rfl, rfl⟩
    clear hkn
    go_wp2_with fail
    go_ret
    exact ret_of HV.out rfl HB.out
  · have HV := Lib.hid (show condE ⟨arg, op, mask, val⟩ = 204 by unfold condE; simp only; split <;> (try omega) <;> split <;> (try omega) <;> split <;> (try omega) <;> split <;> (try omega) <;> simp_all)
    have a1 : ¬ arg < 0 := by omega
    have da1 : decide (arg < 0) = false := decide_eq_false a1
    have a2 : ¬ (6 : Int) ≤ arg := by omega
    have da2 : decide ((6 : Int) ≤ arg) = false := decide_eq_false a2
    have a3 : ¬ (5 : Int) < arg := by omega
    have da3 : decide ((5 : Int) < arg) = false := decide_eq_false a3
    obtain rfl : op = 7 := by omega
    have hk : decide (1 ≤ 7 ∧ 7 ≤ 7) = true := by decide
    obtain rfl : mask = 0 := by omega
    clear hA hm hv
    have hkn := fun W => known_any 7 W
    rw [hk] at hkn
    clear hk
    go_enter Tryz.func11, Tryz.ntmps11
    go_wp2_with fail
    refine (hkn _).mono ?_
    rintro e w' ⟨rfl, rfl⟩
    clear hkn
    go_wp2_with fail
    go_ret
    exact ret_of HV.out rfl HB.out
  · have HV := Lib.hid (show condE ⟨arg, op, mask, val⟩ = 204 by unfold condE; simp only; split <;> (try omega) <;> split <;> (try omega) <;> split <;> (try omega) <;> split <;> (try omega) <;> simp_all)
    have a1 : ¬ arg < 0 := by omega
    have da1 : decide (arg < 0) = false := decide_eq_false a1
    have a2 : ¬ (6 : Int) ≤ arg := by omega
    have da2 : decide ((6 : Int) ≤ arg) = false := decide_eq_false a2
    have a3 : ¬ (5 : Int) < arg := by omega
    have da3 : decide ((5 : Int) < arg) = false := decide_eq_false a3
    obtain rfl : op = 7 := by omega
    have hk : decide (1 ≤ 7 ∧ 7 ≤ 7) = true := by decide
    have m1 : ((mask : Int) != 0) = true := by rw [bne_iff_ne]; omega
    have m2 : ((mask : Int) == 0) = false := by rw [beq_eq_false_iff_ne]; omega
    have b1 : (bits .andNot .u64 (val : Int) (mask : Int) != 0) = true := by rw [u64_andNot_nat _ _ hv hm, bne_iff_ne]; have hne : ¬ (val &&& (18446744073709551615 - mask) = 0) := fun h => hA.2.2.2.2 ((bits_left val mask hv hm).1 h); omega
    have b2 : (bits .and .u64 (val : Int) (mask : Int) != (val : Int)) = true := by rw [u64_and_nat _ _ hv hm, bne_iff_ne]; have := hA.2.2.2.2; omega
    clear hA hm hv
    have hkn := fun W => known_any 7 W
    rw [hk] at hkn
    clear hk
    go_enter Tryz.func11, Tryz.ntmps11
    go_wp2_with fail
    refine (hkn _).mono ?_
    rintro e w' ⟨rfl, rfl⟩
    clear hkn
    go_wp2_with fail
    go_ret
    exact ret_of HV.out rfl HB.out
  · have HV := Lib.hid (show condE ⟨arg, op, mask, val⟩ = 0 by unfold condE; simp only; split <;> (try omega) <;> split <;> (try omega) <;> split <;> (try omega) <;> split <;> (try omega) <;> simp_all)
    have a1 : ¬ arg < 0 := by omega
    have da1 : decide (arg < 0) = false := decide_eq_false a1
    have a2 : ¬ (6 : Int) ≤ arg := by omega
    have da2 : decide ((6 : Int) ≤ arg) = false := decide_eq_false a2
    have a3 : ¬ (5 : Int) < arg := by omega
    have da3 : decide ((5 : Int) < arg) = false := decide_eq_false a3
    obtain rfl : op = 7 := by omega
    have hk : decide (1 ≤ 7 ∧ 7 ≤ 7) = true := by decide
    have m1 : ((mask : Int) != 0) = true := by rw [bne_iff_ne]; omega
    have m2 : ((mask : Int) == 0) = false := by rw [beq_eq_false_iff_ne]; omega
    have b1 : (bits .andNot .u64 (val : Int) (mask : Int) != 0) = false := by rw [u64_andNot_nat _ _ hv hm, (bits_left val mask hv hm).2 hA.2.2.2.2]; rfl
    have b2 : (bits .and .u64 (val : Int) (mask : Int) != (val : Int)) = false := by rw [u64_and_nat _ _ hv hm, hA.2.2.2.2]; simp
    clear hA hm hv
    have hkn := fun W => known_any 7 W
    rw [hk] at hkn
    clear hk
    go_enter Tryz.func11, Tryz.ntmps11
    go_wp2_with fail
    refine (hkn _).mono ?_
    rintro e w' ⟨rfl, rfl⟩
    clear hkn
    go_wp2_with fail
    go_ret
    exact ret_of HV.out rfl HB.out
set_option maxHeartbeats 2000000 in
set_option maxRecDepth 100000 in
theorem refCondCheck_any (arg : Int) (op mask val : Nat) (w : World) (hm : mask < 18446744073709551616) (hv : val < 18446744073709551616) : Calls Tryz.prog 12 #[.agg #[.int .i64 arg, .int .i64 op, .int .u64 mask, .int .u64 val]] w (RetE (condE ⟨arg, op, mask, val⟩) w) := by
  have HB := Lib.hid (show Below w.heap.size w (w.alloc (.cells #[.int .i64 arg, .int .i64 op, .int .u64 mask, .int .u64 val] 65)) from (Below.refl _ _).alloc (Nat.le_refl _) _)
  rcases cond_ways arg op mask val with hA | hA | hA | hA | hA | hA | hA | hA | hA
  · have HV := Lib.hid (show condE ⟨arg, op, mask, val⟩ = 204 by unfold condE; simp only; split <;> (try omega) <;> split <;> (try omega) <;> split <;> (try omega) <;> split <;> (try omega) <;> simp_all)
    have a1 : arg < 0 := by omega
    have da1 : decide (arg < 0) = true := decide_eq_true a1
    clear hA hm hv
    go_enter Tryz.func12, Tryz.ntmps12
    go_wp2_with fail
    go_ret
    exact ret_of HV.out rfl HB.out
  · have HV := Lib.hid (show condE ⟨arg, op, mask, val⟩ = 204 by unfold condE; simp only; split <;> (try omega) <;> split <;> (try omega) <;> split <;> (try omega) <;> split <;> (try omega) <;> simp_all)
    have a1 : ¬ arg < 0 := by omega
    have da1 : decide (arg < 0) = false := decide_eq_false a1
    have a2 : (6 : Int) ≤ arg := by omega
    have da2 : decide ((6 : Int) ≤ arg) = true := decide_eq_true a2
    have a3 : (5 : Int) < arg := by omega
    have da3 : decide ((5 : Int) < arg) = true := decide_eq_true a3
    clear hA hm hv
    go_enter Tryz.func12, Tryz.ntmps12
    go_wp2_with fail
    go_ret
    exact ret_of HV.out rfl HB.out
  · have HV := Lib.hid (show condE ⟨arg, op, mask, val⟩ = 210 by unfold condE; simp only; split <;> (try omega) <;> split <;> (try omega) <;> split <;> (try omega) <;> split <;> (try omega) <;> simp_all)
    have a1 : ¬ arg < 0 := by omega
    have da1 : decide (arg < 0) = false := decide_eq_false a1
    have a2 : ¬ (6 : Int) ≤ arg := by omega
    have da2 : decide ((6 : Int) ≤ arg) = false := decide_eq_false a2
    have a3 : ¬ (5 : Int) < arg := by omega
    have da3 : decide ((5 : Int) < arg) = false := decide_eq_false a3
    have hk : decide (1 ≤ op ∧ op ≤ 7) = false := decide_eq_false (by omega)
    have o1 : (op : Int) < 1 := by omega
    have do1 : decide ((op : Int) < 1) = true := decide_eq_true o1
    clear hA hm hv
    clear hk
    go_enter Tryz.func12, Tryz.ntmps12
    go_wp2_with fail
    go_ret
    exact ret_of HV.out rfl HB.out
  · have HV := Lib.hid (show condE ⟨arg, op, mask, val⟩ = 210 by unfold condE; simp only; split <;> (try omega) <;> split <;> (try omega) <;> split <;> (try omega) <;> split <;> (try omega) <;> simp_all)
    have a1 : ¬ arg < 0 := by omega
    have da1 : decide (arg < 0) = false := decide_eq_false a1
    have a2 : ¬ (6 : Int) ≤ arg := by omega
    have da2 : decide ((6 : Int) ≤ arg) = false := decide_eq_false a2
    have a3 : ¬ (5 : Int) < arg := by omega
    have da3 : decide ((5 : Int) < arg) = false := decide_eq_false a3
    have hk : decide (1 ≤ op ∧ op ≤ 7) = false := decide_eq_false (by omega)
    have o1 : ¬ (op : Int) < 1 := by omega
    have do1 : decide ((op : Int) < 1) = false := decide_eq_false o1
    have o2 : (7 : Int) < (op : Int) := by omega
    have do2 : decide ((7 : Int) < (op : Int)) = true := decide_eq_true o2
    clear hA hm hv
    clear hk
    go_enter Tryz.func12, Tryz.ntmps12
    go_wp2_with fail
    go_ret
    exact ret_of HV.out rfl HB.out
  · have HV := Lib.hid (show condE ⟨arg, op, mask, val⟩ = 203 by unfold condE; simp only; split <;> (try omega) <;> split <;> (try omega) <;> split <;> (try omega) <;> split <;> (try omega) <;> simp_all)
    have a1 : ¬ arg < 0 := by omega
    have da1 : decide (arg < 0) = false := decide_eq_false a1
    have a2 : ¬ (6 : Int) ≤ arg := by omega
    have da2 : decide ((6 : Int) ≤ arg) = false := decide_eq_false a2
    have a3 : ¬ (5 : Int) < arg := by omega
    have da3 : decide ((5 : Int) < arg) = false := decide_eq_false a3
    have hk : decide (1 ≤ op ∧ op ≤ 7) = true := decide_eq_true (by omega)
    have o1 : ¬ (op : Int) < 1 := by omega
    have do1 : decide ((op : Int) < 1) = false := decide_eq_false o1
    have o2 : ¬ (7 : Int) < (op : Int) := by omega
    have do2 : decide ((7 : Int) < (op : Int)) = false := decide_eq_false o2
    have o3 : ((op : Int) != 7) = true := by rw [bne_iff_ne]; omega
    have o4 : ((op : Int) == 7) = false := by rw [beq_eq_false_iff_ne]; omega
    have m1 : ((mask : Int) != 0) = true := by rw [bne_iff_ne]; omega
    have m2 : ((mask : Int) == 0) = false := by rw [beq_eq_false_iff_ne]; omega
    clear hA hm hv
    clear hk
    go_enter Tryz.func12, Tryz.ntmps12
    go_wp2_with fail
    go_ret
    exact ret_of HV.out rfl HB.out
  · have HV := Lib.hid (show condE ⟨arg, op, mask, val⟩ = 0 by unfold condE; simp only; split <;> (try omega) <;> split <;> (try omega) <;> split <;> (try omega) <;> split <;> (try omega) <;> simp_all)
    have a1 : ¬ arg < 0 := by omega
    have da1 : decide (arg < 0) = false := decide_eq_false a1
    have a2 : ¬ (6 : Int) ≤ arg := by omega
    have da2 : decide ((6 : Int) ≤ arg) = false := decide_eq_false a2
    have a3 : ¬ (5 : Int) < arg := by omega
    have da3 : decide ((5 : Int) < arg) = false := decide_eq_false a3
    have hk : decide (1 ≤ op ∧ op ≤ 7) = true := decide_eq_true (by omega)
    have o1 : ¬ (op : Int) < 1 := by omega
    have do1 : decide ((op : Int) < 1) = false := decide_eq_false o1
    have o2 : ¬ (7 : Int) < (op : Int) := by omega
    have do2 : decide ((7 : Int) < (op : Int)) = false := decide_eq_false o2
    have o3 : ((op : Int) != 7) = true := by rw [bne_iff_ne]; omega
    have o4 : ((op : Int) == 7) = false := by rw [beq_eq_false_iff_ne]; omega
    obtain rfl : mask = 0 := by omega
    clear hA hm hv
    clear hk
    go_enter Tryz.func12, Tryz.ntmps12
    go_wp2_with fail
    go_ret
    exact ret_of HV.out rfl HB.out
  · have HV := Lib.hid (show condE ⟨arg, op, mask, val⟩ = 204 by unfold condE; simp only; split <;> (try omega) <;> split <;> (try omega) <;> split <;> (try omega) <;> split <;> (try omega) <;> simp_all)
    have a1 : ¬ arg < 0 := by omega
    have da1 : decide (arg < 0) = false := decide_eq_false a1
    have a2 : ¬ (6 : Int) ≤ arg := by omega
    have da2 : decide ((6 : Int) ≤ arg) = false := decide_eq_false a2
    have a3 : ¬ (5 : Int) < arg := by omega
    have da3 : decide ((5 : Int) < arg) = false := decide_eq_false a3
    obtain rfl : op = 7 := by omega
    have hk : decide (1 ≤ 7 ∧ 7 ≤ 7) = true := by decide
    obtain rfl : mask = 0 := by omega
    clear hA hm hv
    clear hk
    go_enter Tryz.func12, Tryz.ntmps12
    go_wp2_with fail
    go_ret
    exact ret_of HV.out rfl HB.out
  · have HV := Lib.hid (show condE ⟨arg, op, mask, val⟩ = 204 by unfold condE; simp only; split <;> (try omega) <;> split <;> (try omega) <;> split <;> (try omega) <;> split <;> (try omega) <;> simp_all)
    have a1 : ¬ arg < 0 := by omega
    have da1 : decide (arg < 0) = false := decide_eq_false a1
    have a2 : ¬ (6 : Int) ≤ arg := by omega
    have da2 : decide ((6 : Int) ≤ arg) = false := decide_eq_false a2
    have a3 : ¬ (5 : Int) < arg := by omega
    have da3 : decide ((5 : Int) < arg) = false := decide_eq_false a3
    obtain rfl : op = 7 := by omega
    have hk : decide (1 ≤ 7 ∧ 7 ≤ 7) = true := by decide
    have m1 : ((mask : Int) != 0) = true := by rw [bne_iff_ne]; omega
    have m2 : ((mask : Int) == 0) = false := by rw [beq_eq_false_iff_ne]; omega
    have b1 : (bits .andNot .u64 (val : Int) (mask : Int) != 0) = true := by rw [u64_andNot_nat _ _ hv hm, bne_iff_ne]; have hne : ¬ (val &&& (18446744073709551615 - mask) = 0) := fun h => hA.2.2.2.2 ((bits_left val mask hv hm).1 h); omega
    have b2 : (bits .and .u64 (val : Int) (mask : Int) != (val : Int)) = true := by rw [u64_and_nat _ _ hv hm, bne_iff_ne]; have := hA.2.2.2.2; omega
    clear hA hm hv
    clear hk
    go_enter Tryz.func12, Tryz.ntmps12
    go_wp2_with fail
    go_ret
    exact ret_of HV.out rfl HB.out
  · have HV := Lib.hid (show condE ⟨arg, op, mask, val⟩ = 0 by unfold condE; simp only; split <;> (try omega) <;> split <;> (try omega) <;> split <;> (try omega) <;> split <;> (try omega) <;> simp_all)
    have a1 : ¬ arg < 0 := by omega
    have da1 : decide (arg < 0) = false := decide_eq_false a1
    have a2 : ¬ (6 : Int) ≤ arg := by omega
    have da2 : decide ((6 : Int) ≤ arg) = false := decide_eq_false a2
    have a3 : ¬ (5 : Int) < arg := by omega
    have da3 : decide ((5 : Int) < arg) = false := decide_eq_false a3
    obtain rfl : op = 7 := by omega
    have hk : decide (1 ≤ 7 ∧ 7 ≤ 7) = true := by decide
    have m1 : ((mask : Int) != 0) = true := by rw [bne_iff_ne]; omega
    have m2 : ((mask : Int) == 0) = false := by rw [beq_eq_false_iff_ne]; omega
    have b1 : (bits .andNot .u64 (val : Int) (mask : Int) != 0) = false := by rw [u64_andNot_nat _ _ hv hm, (bits_left val mask hv hm).2 hA.2.2.2.2]; rfl
    have b2 : (bits .and .u64 (val : Int) (mask : Int) != (val : Int)) = false := by rw [u64_and_nat _ _ hv hm, hA.2.2.2.2]; simp
    clear hA hm hv
    clear hk
    go_enter Tryz.func12, Tryz.ntmps12
    go_wp2_with fail
    go_ret
    exact ret_of HV.out rfl HB.out
set_option maxHeartbeats 1000000 in
set_option maxRecDepth 100000 in
theorem refCond_any (arg : Int) (op mask val : Nat) (w : World) (hop : op < 256) : Calls Tryz.prog 13 #[.agg #[.int .i64 arg, .int .u8 op, .int .u64 mask, .int .u64 val]] w (fun e w' => e = .returned (.agg #[.int .i64 arg, .int .i64 op, .int .u64 mask, .int .u64 val]) ∧ Below w.heap.size w w') := by
  have HB1 := Lib.hid (show Below w.heap.size w (w.alloc (.cells #[.int .i64 arg, .int .u8 op, .int .u64 mask, .int .u64 val] 39)) from (Below.refl _ _).alloc (Nat.le_refl _) _)
  go_enter Tryz.func13, Tryz.ntmps13
  go_wp2_with fail
  refine bodyPost_ret (v := .agg #[.int .i64 arg, .int .i64 op, .int .u64 mask, .int .u64 val]) (by simp [results, Tryz.results13, go_sem]) rfl ⟨rfl, ?_⟩
  exact HB1.out.alloc HB1.out.size _
end Go.Proofs.YtonpakndocgndaaGreatDoor
