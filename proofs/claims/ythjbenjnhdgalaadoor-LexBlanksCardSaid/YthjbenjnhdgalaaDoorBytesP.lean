/- Single bytes: which of them stand where. -/
import Derived.Test.YthjbenjnhdgalaaDoorLexM
import Derived.Test.YthjbenjnhdgalaaDoorBk
import Derived.LoopTactic
namespace Go.Proofs.YthjbenjnhdgalaaDoor
open Go.RowKit
def Says (b : Bool) (w : World) (e : Ending) (w' : World) : Prop := e = .returned (.bool b) ∧ w = w'
theorem letter_any (c : Nat) (w : World) : Calls Tryd.prog 60 #[.int .u8 c] w (Says (isL c) w) := by
  by_cases h1 : 97 ≤ c
  · have g1 : (97 : Int) ≤ (c : Int) := by omega
    have d1 : decide ((97 : Int) ≤ (c : Int)) = true := decide_eq_true g1
    have e1 : isL c = decide (c ≤ 122) := by simp [isL, h1]
    have e2 : decide ((c : Int) ≤ 122) = decide (c ≤ 122) := by simp; omega
    rw [e1, ← e2]
    clear e1 e2 h1
    go_enter Tryd.func60, Tryd.ntmps60
    go_wp2
    go_ret
    exact ⟨rfl, rfl⟩
  · have g1 : ¬ (97 : Int) ≤ (c : Int) := by omega
    have d1 : decide ((97 : Int) ≤ (c : Int)) = false := decide_eq_false g1
    have e1 : isL c = false := by simp [isL, h1]
    rw [e1]
    clear e1 h1
    go_enter Tryd.func60, Tryd.ntmps60
    go_wp2
    go_ret
    exact ⟨rfl, rfl⟩
theorem digit_any (c : Nat) (w : World) : Calls Tryd.prog 61 #[.int .u8 c] w (Says (isD c) w) := by
  by_cases h1 : 48 ≤ c
  · have g1 : (48 : Int) ≤ (c : Int) := by omega
    have d1 : decide ((48 : Int) ≤ (c : Int)) = true := decide_eq_true g1
    have e1 : isD c = decide (c ≤ 57) := by simp [isD, h1]
    have e2 : decide ((c : Int) ≤ 57) = decide (c ≤ 57) := by simp; omega
    rw [e1, ← e2]
    clear e1 e2 h1
    go_enter Tryd.func61, Tryd.ntmps61
    go_wp2
    go_ret
    exact ⟨rfl, rfl⟩
  · have g1 : ¬ (48 : Int) ≤ (c : Int) := by omega
    have d1 : decide ((48 : Int) ≤ (c : Int)) = false := decide_eq_false g1
    have e1 : isD c = false := by simp [isD, h1]
    rw [e1]
    clear e1 h1
    go_enter Tryd.func61, Tryd.ntmps61
    go_wp2
    go_ret
    exact ⟨rfl, rfl⟩
theorem ne_lit {c d : Nat} (h : ¬ c = d) : ((c : Int) == (d : Int)) = false := by rw [beq_eq_false_iff_ne]; omega
theorem parts_any (c : Nat) (w : World) : Calls Tryd.prog 45 #[.int .u8 c] w (Says (isP c) w) := by
  by_cases h1 : c = 32
  · subst h1
    go_enter Tryd.func45, Tryd.ntmps45
    go_wp2
    go_ret
    exact ⟨rfl, rfl⟩
  by_cases h2 : c = 9
  · subst h2
    go_enter Tryd.func45, Tryd.ntmps45
    go_wp2
    go_ret
    exact ⟨rfl, rfl⟩
  by_cases h3 : c = 13
  · subst h3
    go_enter Tryd.func45, Tryd.ntmps45
    go_wp2
    go_ret
    exact ⟨rfl, rfl⟩
  · have g1 : ((c : Int) == 32) = false := ne_lit h1
    have g2 : ((c : Int) == 9) = false := ne_lit h2
    have g3 : ((c : Int) == 13) = false := ne_lit h3
    have e1 : isP c = false := by simp [isP, h1, h2, h3]
    rw [e1]
    clear e1 h1 h2 h3
    go_enter Tryd.func45, Tryd.ntmps45
    go_wp2
    go_ret
    exact ⟨rfl, rfl⟩
theorem printable_any (c : Nat) (w : World) : Calls Tryd.prog 13 #[.int .u8 c] w (Says (prn c) w) := by
  by_cases h3 : c = 35
  · subst h3
    go_enter Tryd.func13, Tryd.ntmps13
    go_wp2
    go_ret
    exact ⟨rfl, rfl⟩
  by_cases h1 : 33 ≤ c
  · have g1 : (33 : Int) ≤ (c : Int) := by omega
    have d1 : decide ((33 : Int) ≤ (c : Int)) = true := decide_eq_true g1
    have g3 : ((c : Int) != 35) = true := by simp; omega
    by_cases h2 : c ≤ 126
    · have g2 : (c : Int) ≤ 126 := by omega
      have d2 : decide ((c : Int) ≤ 126) = true := decide_eq_true g2
      have e1 : prn c = true := by simp [prn, h1, h2, h3]
      rw [e1]
      clear e1 h1 h2 h3
      go_enter Tryd.func13, Tryd.ntmps13
      go_wp2
      go_ret
      exact ⟨rfl, rfl⟩
    · have g2 : ¬ (c : Int) ≤ 126 := by omega
      have d2 : decide ((c : Int) ≤ 126) = false := decide_eq_false g2
      have e1 : prn c = false := by simp [prn, h2]
      rw [e1]
      clear e1 h1 h2 h3
      go_enter Tryd.func13, Tryd.ntmps13
      go_wp2
      go_ret
      exact ⟨rfl, rfl⟩
  · have g1 : ¬ (33 : Int) ≤ (c : Int) := by omega
    have d1 : decide ((33 : Int) ≤ (c : Int)) = false := decide_eq_false g1
    have e1 : prn c = false := by simp [prn, h1]
    rw [e1]
    clear e1 h1 h3
    go_enter Tryd.func13, Tryd.ntmps13
    go_wp2
    go_ret
    exact ⟨rfl, rfl⟩
def SaysN (k : Nat) (w : World) (e : Ending) (w' : World) : Prop := e = .returned (.int .u8 k) ∧ w = w'
theorem begun_any (c : Nat) (w : World) : Calls Tryd.prog 46 #[.int .u8 c] w (SaysN (begunB c) w) := by
  have hl := fun W => letter_any c W
  have hd := fun W => digit_any c W
  unfold begunB
  cases h1 : isL c with
  | true =>
    rw [h1] at hl
    clear h1 hd
    go_enter Tryd.func46, Tryd.ntmps46
    go_wp2_with fail
    refine (hl _).mono ?_
    rintro e w' ⟨rfl, rfl⟩
    go_wp2_with fail
    go_ret
    exact ⟨rfl, rfl⟩
  | false =>
    rw [h1] at hl
    cases h2 : isD c with
    | true =>
      rw [h2] at hd
      clear h1 h2
      go_enter Tryd.func46, Tryd.ntmps46
      go_wp2_with fail
      refine (hl _).mono ?_
      rintro e w' ⟨rfl, rfl⟩
      go_wp2_with fail
      refine (hd _).mono ?_
      rintro e w' ⟨rfl, rfl⟩
      go_wp2_with fail
      go_ret
      exact ⟨rfl, rfl⟩
    | false =>
      rw [h2] at hd
      clear h1 h2
      by_cases h3 : c = 47
      · subst h3
        go_enter Tryd.func46, Tryd.ntmps46
        go_wp2_with fail
        refine (hl _).mono ?_
        rintro e w' ⟨rfl, rfl⟩
        go_wp2_with fail
        refine (hd _).mono ?_
        rintro e w' ⟨rfl, rfl⟩
        go_wp2_with fail
        go_ret
        exact ⟨rfl, rfl⟩
      · have g3 : ((c : Int) == 47) = false := ne_lit h3
        rw [if_neg h3]
        clear h3
        go_enter Tryd.func46, Tryd.ntmps46
        go_wp2_with fail
        refine (hl _).mono ?_
        rintro e w' ⟨rfl, rfl⟩
        go_wp2_with fail
        refine (hd _).mono ?_
        rintro e w' ⟨rfl, rfl⟩
        go_wp2_with fail
        go_ret
        exact ⟨rfl, rfl⟩
theorem lit_ne {t : Bs} {l : Bs} (h : ¬ t = l) : ((⟨t.toArray⟩ : ByteArray).toList == l) = false := by simp [h]
theorem sign_any (t : Bs) (w : World) : Calls Tryd.prog 48 #[.string ⟨t.toArray⟩] w (Says (isSign t) w) := by
  by_cases h0 : t = [61, 61]
  · subst h0
    go_enter Tryd.func48, Tryd.ntmps48
    go_wp2
    go_ret
    exact ⟨rfl, rfl⟩
  by_cases h1 : t = [33, 61]
  · subst h1
    go_enter Tryd.func48, Tryd.ntmps48
    go_wp2
    go_ret
    exact ⟨rfl, rfl⟩
  by_cases h2 : t = [60]
  · subst h2
    go_enter Tryd.func48, Tryd.ntmps48
    go_wp2
    go_ret
    exact ⟨rfl, rfl⟩
  by_cases h3 : t = [60, 61]
  · subst h3
    go_enter Tryd.func48, Tryd.ntmps48
    go_wp2
    go_ret
    exact ⟨rfl, rfl⟩
  by_cases h4 : t = [62]
  · subst h4
    go_enter Tryd.func48, Tryd.ntmps48
    go_wp2
    go_ret
    exact ⟨rfl, rfl⟩
  by_cases h5 : t = [62, 61]
  · subst h5
    go_enter Tryd.func48, Tryd.ntmps48
    go_wp2
    go_ret
    exact ⟨rfl, rfl⟩
  by_cases h6 : t = [38]
  · subst h6
    go_enter Tryd.func48, Tryd.ntmps48
    go_wp2
    go_ret
    exact ⟨rfl, rfl⟩
  · have e1 : isSign t = false := by simp [isSign, h0, h1, h2, h3, h4, h5, h6]
    have g0 : ((⟨t.toArray⟩ : ByteArray).toList == [61, 61]) = false := lit_ne h0
    have g1 : ((⟨t.toArray⟩ : ByteArray).toList == [33, 61]) = false := lit_ne h1
    have g2 : ((⟨t.toArray⟩ : ByteArray).toList == [60]) = false := lit_ne h2
    have g3 : ((⟨t.toArray⟩ : ByteArray).toList == [60, 61]) = false := lit_ne h3
    have g4 : ((⟨t.toArray⟩ : ByteArray).toList == [62]) = false := lit_ne h4
    have g5 : ((⟨t.toArray⟩ : ByteArray).toList == [62, 61]) = false := lit_ne h5
    have g6 : ((⟨t.toArray⟩ : ByteArray).toList == [38]) = false := lit_ne h6
    rw [e1]
    clear e1 h0 h1 h2 h3 h4 h5 h6
    generalize (⟨t.toArray⟩ : ByteArray) = T at *
    go_enter Tryd.func48, Tryd.ntmps48
    go_wp2
    go_ret
    exact ⟨rfl, rfl⟩
end Go.Proofs.YthjbenjnhdgalaaDoor
