/- Single bytes: which of them stand where. -/
import Derived.Test.YtonpakndocgndaaGreatDoorLexM
import Derived.Test.YtonpakndocgndaaGreatDoorBk
import Derived.LoopTactic
namespace Go.Proofs.YtonpakndocgndaaGreatDoor
open Go.RowKit
def Says (b : Bool) (w : World) (e : Ending) (w' : World) : Prop := e = .returned (.bool b) ∧ w = w'
theorem ne_lit {c d : Nat} (h : ¬ c = d) : ((c : Int) == (d : Int)) = false := by rw [beq_eq_false_iff_ne]; omega
theorem printable_any (c : Nat) (w : World) : Calls Tryz.prog 66 #[.int .u8 c] w (Says (prn c) w) := by
  by_cases h3 : c = 35
  · subst h3
    go_enter Tryz.func66, Tryz.ntmps66
    go_wp2
    go_ret
    exact ⟨rfl, rfl⟩
  by_cases h1 : 33 ≤ c
  · have g1 : (33 : Int) ≤ (c : Int) := by omega
    have d1 : decide ((33 : Int) ≤ (c : Int)) = true := decide_eq_true g1
    have g3 : ((c : Int) != 35) = true := by simp; omega
    by_cases h2 : c ≤ 126
    · have g2 : (c : Int) ≤ 126 := by omega
      have d2 : decide ((c : Int) ≤ 126) = true := decide_eq_true g2
      have e1 : prn c = true := by simp [prn, h1, h2, h3]
      rw [e1]
      clear e1 h1 h2 h3
      go_enter Tryz.func66, Tryz.ntmps66
      go_wp2
      go_ret
      exact ⟨rfl, rfl⟩
    · have g2 : ¬ (c : Int) ≤ 126 := by omega
      have d2 : decide ((c : Int) ≤ 126) = false := decide_eq_false g2
      have e1 : prn c = false := by simp [prn, h2]
      rw [e1]
      clear e1 h1 h2 h3
      go_enter Tryz.func66, Tryz.ntmps66
      go_wp2
      go_ret
      exact ⟨rfl, rfl⟩
  · have g1 : ¬ (33 : Int) ≤ (c : Int) := by omega
    have d1 : decide ((33 : Int) ≤ (c : Int)) = false := decide_eq_false g1
    have e1 : prn c = false := by simp [prn, h1]
    rw [e1]
    clear e1 h1 h3
    go_enter Tryz.func66, Tryz.ntmps66
    go_wp2
    go_ret
    exact ⟨rfl, rfl⟩
def SaysN (k : Nat) (w : World) (e : Ending) (w' : World) : Prop := e = .returned (.int .u8 k) ∧ w = w'
theorem lit_ne {t : Bs} {l : Bs} (h : ¬ t = l) : ((⟨t.toArray⟩ : ByteArray).toList == l) = false := by simp [h]
end Go.Proofs.YtonpakndocgndaaGreatDoor

