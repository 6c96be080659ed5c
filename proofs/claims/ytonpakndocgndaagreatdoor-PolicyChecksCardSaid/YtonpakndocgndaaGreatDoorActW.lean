/- Actions that a policy may say; sets of rights within others: the program's way and the document's. -/
import Derived.Test.YtonpakndocgndaaGreatDoorCondW
import Derived.Test.YtonpakndocgndaaGreatDoorAct
import Derived.Test.YtonpakndocgndaaGreatDoorBits
namespace Go.Proofs.YtonpakndocgndaaGreatDoor
open Go.RowKit
theorem act_num {a : Nat} (h : a < 4294967296) (h1 : a ≠ 2147483648) (h2 : a ≠ 2147221504) (h3 : a ≠ 2147418112) : actB a = decide (1 ≤ Rec.numN a ∧ Rec.numN a ≤ 4095) := by
  by_cases h5 : a / 65536 = 5
  · have e : Rec.numN a = a % 65536 := by simp [Rec.numN, Rec.strN, h5]
    rw [e]
    unfold actB
    apply decide_eq_decide.2
    omega
  · have e2 : Rec.strN a ≠ 2 := by
      unfold Rec.strN
      rw [if_neg h5]
      split
      · omega
      · split <;> omega
    have e : Rec.numN a = 0 := by unfold Rec.numN; rw [if_neg e2]
    rw [e]
    unfold actB
    apply decide_eq_decide.2
    omega
theorem act_yes {a : Nat} (h : a = 2147483648 ∨ a = 2147221504 ∨ a = 2147418112) : actB a = true := by
  unfold actB
  apply decide_eq_true
  omega
def SaysB (b : Bool) (w : World) (e : Ending) (w' : World) : Prop := e = .returned (.bool b) ∧ w = w'
theorem sb_of {b c : Bool} {w w' : World} {e : Ending} (h : b = c) (he : e = .returned (.bool c)) (hb : w = w') : SaysB b w e w' := by subst h; exact ⟨he, hb⟩
set_option maxHeartbeats 1000000 in
set_option maxRecDepth 100000 in
theorem may_any (a : Nat) (w : World) (h : a < 4294967296) : Calls Tryz.prog 21 #[.int .u32 a] w (SaysB (actB a) w) := by
  by_cases h1 : a = 2147483648
  · have HV := Lib.hid (act_yes (.inl h1))
    subst h1
    go_enter Tryz.func21, Tryz.ntmps21
    go_wp2_with fail
    go_ret
    exact sb_of HV.out rfl rfl
  by_cases h2 : a = 2147221504
  · have HV := Lib.hid (act_yes (.inr (.inl h2)))
    subst h2
    go_enter Tryz.func21, Tryz.ntmps21
    go_wp2_with fail
    go_ret
    exact sb_of HV.out rfl rfl
  by_cases h3 : a = 2147418112
  · have HV := Lib.hid (act_yes (.inr (.inr h3)))
    subst h3
    go_enter Tryz.func21, Tryz.ntmps21
    go_wp2_with fail
    go_ret
    exact sb_of HV.out rfl rfl
  have HV := Lib.hid (act_num h h1 h2 h3)
  have hc := fun W => Rec.number_any a W h
  have g1 : ((a : Int) == 2147483648) = false := by rw [beq_eq_false_iff_ne]; omega
  have g2 : ((a : Int) == 2147221504) = false := by rw [beq_eq_false_iff_ne]; omega
  have g3 : ((a : Int) == 2147418112) = false := by rw [beq_eq_false_iff_ne]; omega
  have hlt : Rec.numN a < 65536 := by unfold Rec.numN; split <;> omega
  obtain ⟨n, hn⟩ : ∃ n, n = Rec.numN a := ⟨_, rfl⟩
  rw [← hn] at HV hc hlt
  clear h h1 h2 h3 hn
  by_cases k1 : 1 ≤ n
  · have e1 : (1 : Int) ≤ (n : Int) := by omega
    have d1 : decide ((1 : Int) ≤ (n : Int)) = true := decide_eq_true e1
    by_cases k2 : n ≤ 4095
    · have e2 : (n : Int) ≤ 4095 := by omega
      have d2 : decide ((n : Int) ≤ 4095) = true := decide_eq_true e2
      have HW := Lib.hid (HV.out.trans (decide_eq_true ⟨k1, k2⟩))
      clear k1 k2 HV
      go_enter Tryz.func21, Tryz.ntmps21
      go_wp2_with fail
      refine (hc _).mono ?_
      rintro e w' ⟨rfl, rfl⟩
      clear hc
      go_wp2_with fail
      go_ret
      exact sb_of HW.out rfl rfl
    · have e2 : ¬ (n : Int) ≤ 4095 := by omega
      have d2 : decide ((n : Int) ≤ 4095) = false := decide_eq_false e2
      have HW := Lib.hid (HV.out.trans (decide_eq_false (fun h => k2 h.2)))
      clear k1 k2 HV
      go_enter Tryz.func21, Tryz.ntmps21
      go_wp2_with fail
      refine (hc _).mono ?_
      rintro e w' ⟨rfl, rfl⟩
      clear hc
      go_wp2_with fail
      go_ret
      exact sb_of HW.out rfl rfl
  · have e1 : ¬ (1 : Int) ≤ (n : Int) := by omega
    have d1 : decide ((1 : Int) ≤ (n : Int)) = false := decide_eq_false e1
    have HW := Lib.hid (HV.out.trans (decide_eq_false (fun h => k1 h.1)))
    clear k1 HV
    go_enter Tryz.func21, Tryz.ntmps21
    go_wp2_with fail
    refine (hc _).mono ?_
    rintro e w' ⟨rfl, rfl⟩
    clear hc
    go_wp2_with fail
    go_ret
    exact sb_of HW.out rfl rfl
set_option maxHeartbeats 1000000 in
set_option maxRecDepth 100000 in
theorem refAction_any (a : Nat) (w : World) : Calls Tryz.prog 27 #[.int .u32 a] w (SaysB (actB a) w) := by
  by_cases h1 : a = 2147483648
  · have HV := Lib.hid (act_yes (.inl h1))
    subst h1
    go_enter Tryz.func27, Tryz.ntmps27
    go_wp2_with fail
    go_ret
    exact sb_of HV.out rfl rfl
  by_cases h2 : a = 2147221504
  · have HV := Lib.hid (act_yes (.inr (.inl h2)))
    subst h2
    go_enter Tryz.func27, Tryz.ntmps27
    go_wp2_with fail
    go_ret
    exact sb_of HV.out rfl rfl
  by_cases h3 : a = 2147418112
  · have HV := Lib.hid (act_yes (.inr (.inr h3)))
    subst h3
    go_enter Tryz.func27, Tryz.ntmps27
    go_wp2_with fail
    go_ret
    exact sb_of HV.out rfl rfl
  have g1 : ((a : Int) == 2147483648) = false := by rw [beq_eq_false_iff_ne]; omega
  have g2 : ((a : Int) == 2147221504) = false := by rw [beq_eq_false_iff_ne]; omega
  have g3 : ((a : Int) == 2147418112) = false := by rw [beq_eq_false_iff_ne]; omega
  by_cases k1 : 327680 < a
  · have e1 : (327680 : Int) < (a : Int) := by omega
    have d1 : decide ((327680 : Int) < (a : Int)) = true := decide_eq_true e1
    by_cases k2 : a ≤ 331775
    · have e2 : (a : Int) ≤ 331775 := by omega
      have d2 : decide ((a : Int) ≤ 331775) = true := decide_eq_true e2
      have HW := Lib.hid (show actB a = true by unfold actB; apply decide_eq_true; omega)
      clear h1 h2 h3 k1 k2
      go_enter Tryz.func27, Tryz.ntmps27
      go_wp2_with fail
      go_ret
      exact sb_of HW.out rfl rfl
    · have e2 : ¬ (a : Int) ≤ 331775 := by omega
      have d2 : decide ((a : Int) ≤ 331775) = false := decide_eq_false e2
      have HW := Lib.hid (show actB a = false by unfold actB; apply decide_eq_false; omega)
      clear h1 h2 h3 k1 k2
      go_enter Tryz.func27, Tryz.ntmps27
      go_wp2_with fail
      go_ret
      exact sb_of HW.out rfl rfl
  · have e1 : ¬ (327680 : Int) < (a : Int) := by omega
    have d1 : decide ((327680 : Int) < (a : Int)) = false := decide_eq_false e1
    have HW := Lib.hid (show actB a = false by unfold actB; apply decide_eq_false; omega)
    clear h1 h2 h3 k1
    go_enter Tryz.func27, Tryz.ntmps27
    go_wp2_with fail
    go_ret
    exact sb_of HW.out rfl rfl
/-- Within, Both. -/
def subP (a b k : Nat) : Prop := ∀ j, j < k → a.testBit j = true → b.testBit j = true
theorem sub_end {a b : Nat} (ha : a < 65536) (h : subP a b 16) : hasS b a = true := by
  unfold hasS
  apply decide_eq_true
  apply Nat.eq_of_testBit_eq
  intro i
  rw [Nat.testBit_and]
  by_cases hi : i < 16
  · cases h1 : a.testBit i
    · simp
    · rw [h i hi h1]; rfl
  · have : a.testBit i = false := Nat.testBit_lt_two_pow (Nat.lt_of_lt_of_le ha (by have := Nat.pow_le_pow_right (show 2 > 0 by omega) (show 16 ≤ i by omega); simpa using this))
    rw [this]; simp
theorem sub_no {a b k : Nat} (h1 : a.testBit k = true) (h2 : b.testBit k = false) : hasS b a = false := by
  unfold hasS
  apply decide_eq_false
  intro h
  have := congrArg (fun n => Nat.testBit n k) h
  simp [Nat.testBit_and, h1, h2] at this
set_option maxHeartbeats 1000000 in
set_option maxRecDepth 100000 in
theorem within_any (a b : Nat) (w : World) (ha : a < 65536) (hb : b < 65536) : Calls Tryz.prog 28 #[.int .i64 a, .int .i64 b] w (SaysB (hasS b a) w) := by
  go_enter Tryz.func28, Tryz.ntmps28
  go_wp2_with fail
  go_loop [5] (fun iv => ∃ k : Nat, k ≤ 16 ∧ iv = .int .i64 k ∧ Hid (subP a b k)) (fun iv => 16 - (intOf iv).toNat)
  case atStart => exact ⟨0, by omega, rfl, fun j hj => absurd hj (by omega)⟩
  case round =>
    obtain ⟨k, hk, rfl, HS⟩ := hrel
    by_cases hlt : k < 16
    · have h15 : k ≤ 15 := by omega
      have c1 := fun W => Rt.refHas_any a k W ha h15
      have c2 := fun W => Rt.refHas_any b k W hb h15
      cases h1 : a.testBit k with
      | false =>
        rw [h1] at c1
        have HK := Lib.hid (show subP a b (k + 1) from fun j hj ht => by
          by_cases e : j = k
          · subst e; rw [h1] at ht; cases ht
          · exact HS.out j (by omega) ht)
        clear h1 c2
        go_wp2_with fail
        refine (c1 _).mono ?_
        rintro e w' ⟨rfl, rfl⟩
        clear c1
        go_wp2_with fail
        go_round
        case rel => exact ⟨k + 1, by omega, by go_num, HK⟩
        case measure => simp [intOf]; omega
      | true =>
        rw [h1] at c1
        cases h2 : b.testBit k with
        | false =>
          rw [h2] at c2
          have HV := Lib.hid (sub_no h1 h2)
          clear h1 h2
          go_wp2_with fail
          refine (c1 _).mono ?_
          rintro e w' ⟨rfl, rfl⟩
          clear c1
          go_wp2_with fail
          refine (c2 _).mono ?_
          rintro e w' ⟨rfl, rfl⟩
          clear c2
          go_wp2_with fail
          go_ret
          exact sb_of HV.out rfl rfl
        | true =>
          rw [h2] at c2
          have HK := Lib.hid (show subP a b (k + 1) from fun j hj ht => by
            by_cases e : j = k
            · subst e; exact h2
            · exact HS.out j (by omega) ht)
          clear h1 h2
          go_wp2_with fail
          refine (c1 _).mono ?_
          rintro e w' ⟨rfl, rfl⟩
          clear c1
          go_wp2_with fail
          refine (c2 _).mono ?_
          rintro e w' ⟨rfl, rfl⟩
          clear c2
          go_wp2_with fail
          go_round
          case rel => exact ⟨k + 1, by omega, by go_num, HK⟩
          case measure => simp [intOf]; omega
    · have HV := Lib.hid (sub_end ha (fun j hj => HS.out j (by omega)))
      go_wp2_with fail
      go_ret
      exact sb_of HV.out rfl rfl
def SaysI (n : Nat) (w : World) (e : Ending) (w' : World) : Prop := e = .returned (.int .i64 n) ∧ w = w'
set_option maxHeartbeats 1000000 in
set_option maxRecDepth 100000 in
theorem both_any (a b : Nat) (w : World) (ha : a < 65536) (hb : b < 65536) : Calls Tryz.prog 31 #[.int .i64 a, .int .i64 b] w (SaysI (a &&& b) w) := by
  obtain ⟨x, hx⟩ : ∃ x, x = a &&& b := ⟨_, rfl⟩
  have hxl : x < 65536 := by rw [hx]; exact Nat.lt_of_le_of_lt Nat.and_le_left ha
  have Hbit := Lib.hid (show ∀ k, x.testBit k = (a.testBit k && b.testBit k) from fun k => by rw [hx, Nat.testBit_and])
  rw [← hx]
  clear hx
  go_enter Tryz.func31, Tryz.ntmps31
  go_wp2_with fail
  go_loop [5, 6] (fun nv iv => ∃ k n : Nat, k ≤ 16 ∧ iv = .int .i64 k ∧ nv = .int .i64 n ∧ n < 65536 ∧ Hid (n = x % 2 ^ k)) (fun _ iv => 16 - (intOf iv).toNat)
  case atStart => exact ⟨0, 0, by omega, rfl, rfl, by omega, Lib.hid (by rw [Nat.pow_zero, Nat.mod_one])⟩
  case round =>
    obtain ⟨k, n, hk, rfl, rfl, hn, HN⟩ := hrel
    by_cases hlt : k < 16
    · have h15 : k ≤ 15 := by omega
      have c1 := fun W => Rt.refHas_any a k W ha h15
      have c2 := fun W => Rt.refHas_any b k W hb h15
      have c3 := fun W => Rt.power_any k W (by omega)
      have HS := Lib.hid (show x % 2 ^ (k + 1) = x % 2 ^ k + 2 ^ k * (x.testBit k).toNat from by rw [Nat.mod_pow_succ, Nat.testBit_eq_decide_div_mod_eq]; rcases Nat.mod_two_eq_zero_or_one (x / 2 ^ k) with e | e <;> rw [e] <;> rfl)
      have hp : 2 ^ k < 65536 := Rt.pow_lt k hlt
      obtain ⟨p, hpe⟩ : ∃ p, p = (2 : Nat) ^ k := ⟨_, rfl⟩
      rw [← hpe] at hp c3
      have HP := Lib.hid hpe
      clear hpe
      cases h1 : a.testBit k with
      | false =>
        rw [h1] at c1
        have HK := Lib.hid (show n = x % 2 ^ (k + 1) by rw [HS.out, Hbit.out, h1, HN.out]; simp)
        clear h1 c2 c3
        go_wp2_with fail
        refine (c1 _).mono ?_
        rintro e w' ⟨rfl, rfl⟩
        clear c1
        go_wp2_with fail
        go_round
        case rel => exact ⟨k + 1, n, by omega, by go_num, rfl, hn, HK⟩
        case measure => simp [intOf]; omega
      | true =>
        rw [h1] at c1
        cases h2 : b.testBit k with
        | false =>
          rw [h2] at c2
          have HK := Lib.hid (show n = x % 2 ^ (k + 1) by rw [HS.out, Hbit.out, h1, h2, HN.out]; simp)
          clear h1 h2 c3
          go_wp2_with fail
          refine (c1 _).mono ?_
          rintro e w' ⟨rfl, rfl⟩
          clear c1
          go_wp2_with fail
          refine (c2 _).mono ?_
          rintro e w' ⟨rfl, rfl⟩
          clear c2
          go_wp2_with fail
          go_round
          case rel => exact ⟨k + 1, n, by omega, by go_num, rfl, hn, HK⟩
          case measure => simp [intOf]; omega
        | true =>
          rw [h2] at c2
          have HK := Lib.hid (show n + p = x % 2 ^ (k + 1) by rw [HS.out, Hbit.out, h1, h2, HN.out, HP.out]; simp)
          have hnp : n + p < 65536 := by rw [HK.out]; exact Nat.lt_of_le_of_lt (Nat.mod_le _ _) hxl
          clear h1 h2
          go_wp2_with fail
          refine (c1 _).mono ?_
          rintro e w' ⟨rfl, rfl⟩
          clear c1
          go_wp2_with fail
          refine (c2 _).mono ?_
          rintro e w' ⟨rfl, rfl⟩
          clear c2
          go_wp2_with fail
          refine (c3 _).mono ?_
          rintro e w' ⟨rfl, rfl⟩
          clear c3
          go_wp2_with fail
          go_round
          case rel => exact ⟨k + 1, n + p, by omega, by go_num, by go_num, hnp, HK⟩
          case measure => simp [intOf]; omega
    · have HV := Lib.hid (show x = n by
        rw [HN.out, show k = 16 by omega]
        exact (Nat.mod_eq_of_lt hxl).symm)
      go_wp2_with fail
      go_ret
      exact ⟨by rw [HV.out]; rfl, rfl⟩
theorem within_both (r h k : Nat) : hasS (h &&& k) r = (hasS h r && hasS k r) := by
  unfold hasS
  rw [← Bool.decide_and]
  apply decide_eq_decide.2
  constructor
  · intro e
    constructor
    · rw [← e]; apply Nat.eq_of_testBit_eq; intro i; simp only [Nat.testBit_and]; cases h.testBit i <;> simp
    · rw [← e]; apply Nat.eq_of_testBit_eq; intro i; simp only [Nat.testBit_and]; cases h.testBit i <;> cases k.testBit i <;> simp
  · rintro ⟨e1, e2⟩
    rw [Nat.and_assoc, e2, e1]
set_option maxHeartbeats 1000000 in
set_option maxRecDepth 100000 in
theorem mayGrant_any (v0 v1 v2 v4 v5 : Value) (h r k : Nat) (w : World) (hh : h < 65536) (hr : r < 65536) (hk : k < 65536) : Calls Tryz.prog 42 #[.agg #[v0, v1, v2, .int .u16 h, v4, v5], .int .u16 r, .int .u16 k] w (BoolPost (grantB h r k) w) := by
  have HB := Lib.hid (show Below w.heap.size w (w.alloc (.cells #[v0, v1, v2, .int .u16 h, v4, v5] 30)) from (Below.refl _ _).alloc (Nat.le_refl _) _)
  have c1 := fun W => Rt.has_any h r W hh hr
  have c2 := fun W => Rt.has_any k r W hk hr
  rw [show Rt.hasB h r = hasS h r from rfl] at c1
  rw [show Rt.hasB k r = hasS k r from rfl] at c2
  unfold grantB
  by_cases h0 : r = 0
  · subst h0
    go_enter Tryz.func42, Tryz.ntmps42
    go_wp2_with fail
    go_ret
    exact ⟨rfl, HB.out⟩
  have g1 : ((r : Int) != 0) = true := by rw [bne_iff_ne]; omega
  rw [decide_eq_true h0]
  cases e1 : hasS h r with
  | false =>
    rw [e1] at c1
    clear e1 h0 c2
    go_enter Tryz.func42, Tryz.ntmps42
    go_wp2_with fail
    refine (c1 _).mono ?_
    rintro e w' ⟨rfl, rfl⟩
    clear c1
    go_wp2_with fail
    go_ret
    exact ⟨rfl, HB.out⟩
  | true =>
    rw [e1] at c1
    clear e1 h0
    go_enter Tryz.func42, Tryz.ntmps42
    go_wp2_with fail
    refine (c1 _).mono ?_
    rintro e w' ⟨rfl, rfl⟩
    clear c1
    go_wp2_with fail
    refine (c2 _).mono ?_
    rintro e w' ⟨rfl, rfl⟩
    clear c2
    go_wp2_with fail
    go_ret
    exact ⟨rfl, HB.out⟩
end Go.Proofs.YtonpakndocgndaaGreatDoor
