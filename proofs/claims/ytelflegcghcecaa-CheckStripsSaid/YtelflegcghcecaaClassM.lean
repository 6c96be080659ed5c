/- What CheckStrips counts, of lists alone: the classes' sum, the classes of a list's start, the reached ones. -/
import Derived.Test.YtelflegcghcecaaCount
import Derived.Test.YtelflegcghcecaaStrip
namespace Go.Proofs.Ytelflegcghcecaa
theorem ofClass_take {l : List Ins} {j : Nat} {x : Ins} (h : l[j]? = some x) (q : Nat) : ofClass (l.take (j + 1)) q = if x.c % 8 = q then ofClass (l.take j) q + 1 else ofClass (l.take j) q := by
  rw [List.take_add_one, h]
  exact ofClass_snoc _ _ _
theorem ofClass_none (l : List Ins) (q : Nat) : ofClass (l.take 0) q = 0 := rfl
theorem ofClass_mono (l : List Ins) (j q : Nat) : ofClass (l.take j) q ≤ ofClass l q := by
  have : ofClass l q = ofClass (l.take j) q + ofClass (l.drop j) q := by
    unfold ofClass
    rw [← List.length_append, ← List.filter_append, List.take_append_drop]
  omega
def sumTo (l : List Ins) : Nat → Nat
  | 0 => 0
  | k + 1 => sumTo l k + ofClass l k
theorem sumTo_snoc (l : List Ins) (x : Ins) : ∀ k, sumTo (l ++ [x]) k = sumTo l k + if x.c % 8 < k then 1 else 0
  | 0 => rfl
  | k + 1 => by
    simp only [sumTo]
    rw [sumTo_snoc l x k, ofClass_snoc]
    by_cases h : x.c % 8 = k
    · rw [if_pos h, if_neg (by omega), if_pos (by omega)]; omega
    · rw [if_neg h]
      by_cases h2 : x.c % 8 < k
      · rw [if_pos h2, if_pos (by omega)]; omega
      · rw [if_neg h2, if_neg (by omega)]; omega
theorem sumTo_nil : ∀ k, sumTo [] k = 0
  | 0 => rfl
  | k + 1 => by
    have h : ofClass [] k = 0 := rfl
    rw [sumTo, sumTo_nil k, h]
theorem sumTo_all (l : List Ins) : sumTo l 8 = l.length := by
  have : ∀ n, ∀ l : List Ins, l.length = n → sumTo l 8 = n := by
    intro n
    induction n with
    | zero => intro l h; rw [List.eq_nil_of_length_eq_zero h]; exact sumTo_nil 8
    | succ n ih =>
      intro l h
      have hne : l ≠ [] := by intro e; rw [e] at h; cases h
      rw [← List.dropLast_concat_getLast hne, sumTo_snoc, ih _ (by rw [List.length_dropLast]; omega), if_pos (Nat.mod_lt _ (by omega))]
  exact this _ l rfl
theorem sumTo_le (l : List Ins) : ∀ k, sumTo l k ≤ k * l.length
  | 0 => by simp [sumTo]
  | k + 1 => by
    have := sumTo_le l k
    have := ofClass_le l k
    rw [sumTo, Nat.succ_mul]; omega
/-- Stripped of a good list: every one of it is reached, all of them. -/
theorem strip_rb {l : List Ins} (g : Good l) {m : Nat} (hm : m < (stripL l).length) : (rc (stripL l)).getD m false = true := strip_reach g m hm
end Go.Proofs.Ytelflegcghcecaa
