/- That code may be loaded, and what it answers: lists alone. -/
import Derived.Test.YtjgackejkkglcaaJuSz
namespace Go.Proofs.Ytjgackejkkglcaa.Ju
def ldI : Ins := ⟨32, 0, 0, 0⟩
def NoT (l : List Ins) : Prop := ∀ i ∈ l, takes i = false
theorem not_rets : ∀ d i : Nat, NoT (rets i d)
  | 0, _ => fun i h => by cases h
  | d + 1, i => fun j h => by
    rcases List.mem_cons.1 (show j ∈ retI i :: rets (i + 1) d from h) with rfl | h
    · rfl
    · exact not_rets d (i + 1) j h
theorem not_cons {i : Ins} {l : List Ins} (h : takes i = false) (hl : NoT l) : NoT (i :: l) := fun j hj => by
  rcases List.mem_cons.1 hj with rfl | hj
  · exact h
  · exact hl j hj
theorem not_if {c t f : Nat} (hc : c = 21 ∨ c = 69) : takes ⟨c, t, f, 5⟩ = false := by rcases hc with rfl | rfl <;> rfl
theorem not_sz {c a b m : Nat} (hc : c = 21 ∨ c = 69) : NoT (ldI :: szCode c a b m) := by
  refine not_cons rfl ?_
  have hr := not_rets m 0
  unfold szCode
  split
  · split
    · exact not_cons (not_if hc) hr
    · exact not_cons (not_if hc) (not_cons rfl hr)
  · split
    · exact not_cons (not_if hc) (not_cons rfl hr)
    · exact not_cons (not_if hc) (not_cons rfl (not_cons rfl hr))
theorem sz_pre (c a b m : Nat) : ∃ pre, ldI :: szCode c a b m = pre ++ rets 0 m := by
  unfold szCode
  split
  · split
    · exact ⟨[ldI, ⟨c, a, b, 5⟩], rfl⟩
    · exact ⟨[ldI, ⟨c, 0, b + 1, 5⟩, skipI a], rfl⟩
  · split
    · exact ⟨[ldI, ⟨c, a + 1, 0, 5⟩, skipI b], rfl⟩
    · exact ⟨[ldI, ⟨c, 0, 1, 5⟩, skipI (a + 1), skipI b], rfl⟩
theorem sz_good {c a b m : Nat} (hc : c = 21 ∨ c = 69) (ha : a < m) (hb : b < m) (hm : m ≤ 700) : Good (ldI :: szCode c a b m) := by
  have hl := sz_len c a b m
  refine ⟨by simp, ?_, all_at (all_sz hc ha hb), fun i hi => ?_, fun k i hi ht => ?_⟩
  · rw [List.length_cons, hl]
    split <;> split <;> omega
  · obtain ⟨pre, hp⟩ := sz_pre c a b m
    rw [hp] at hi
    rw [List.length_append, rets_len, List.getElem?_append_right (by omega), show pre.length + m - 1 - pre.length = m - 1 from by omega, rets_at m 0 (m - 1) (by omega)] at hi
    cases hi; rfl
  · have := not_sz (a := a) (b := b) (m := m) hc i (List.mem_of_getElem? hi)
    rw [this] at ht; cases ht
theorem run_ret {W : Nat → Nat} {l : List Ins} {s : Mc} {k : Nat} (h : l[s.nx]? = some (retI k)) : (rest W l s).2 = k := by
  rw [rest_some (s' := { s with nx := s.nx + 1 }) (r := k) h rfl]
theorem run_skip {W : Nat → Nat} {l : List Ins} {s : Mc} {k : Nat} (h : l[s.nx]? = some (skipI k)) : (rest W l s).2 = (rest W l { s with nx := s.nx + 1 + k }).2 := by
  rw [rest_none (s' := { s with nx := s.nx + 1 + k }) h (by simp [stepN, farN, skipI])]
theorem run_if {W : Nat → Nat} {l : List Ins} {s : Mc} {c t f : Nat} (hc : c = 21 ∨ c = 69) (h : l[s.nx]? = some ⟨c, t, f, 5⟩) : (rest W l s).2 = (rest W l { s with nx := s.nx + 1 + (if holdsN (c / 16) s.a 5 = true then t else f) }).2 := by
  rw [rest_none (s' := { s with nx := s.nx + 1 + (if holdsN (c / 16) s.a 5 = true then t else f) }) h (by rcases hc with rfl | rfl <;> simp [stepN, farN, opd])]
theorem run_ld {W : Nat → Nat} {l : List Ins} (h : l[0]? = some ldI) : (runN W l).2 = (rest W l ⟨W 0, 0, List.replicate 16 0, 1⟩).2 := by
  rw [run_rest, rest_none (s := mc0) (s' := ⟨W 0, 0, List.replicate 16 0, 1⟩) h rfl]
theorem sz_run (W : Nat → Nat) {c a b m : Nat} (hc : c = 21 ∨ c = 69) (ha : a < m) (hb : b < m) : (runN W (ldI :: szCode c a b m)).2 = if holdsN (c / 16) (W 0) 5 = true then a else b := by
  rw [run_ld rfl]
  have ra := rets_at m 0 a ha
  have rb := rets_at m 0 b hb
  rw [Nat.zero_add] at ra rb
  obtain ⟨hv, hhv⟩ : ∃ hv, hv = holdsN (c / 16) (W 0) 5 := ⟨_, rfl⟩
  unfold szCode
  by_cases hb2 : b ≤ 253
  · rw [if_pos hb2]
    by_cases ha2 : a ≤ 253
    · rw [if_pos ha2, run_if hc (s := ⟨W 0, 0, List.replicate 16 0, 1⟩) (t := a) (f := b) rfl]
      simp only [← hhv]
      cases hv
      · exact run_ret (by show (ldI :: ⟨c, a, b, 5⟩ :: rets 0 m)[1 + 1 + b]? = _; rw [show 1 + 1 + b = b + 1 + 1 from by omega]; exact rb)
      · exact run_ret (by show (ldI :: ⟨c, a, b, 5⟩ :: rets 0 m)[1 + 1 + a]? = _; rw [show 1 + 1 + a = a + 1 + 1 from by omega]; exact ra)
    · rw [if_neg ha2, run_if hc (s := ⟨W 0, 0, List.replicate 16 0, 1⟩) (t := 0) (f := b + 1) rfl]
      simp only [← hhv]
      cases hv
      · exact run_ret (by show (ldI :: ⟨c, 0, b + 1, 5⟩ :: skipI a :: rets 0 m)[1 + 1 + (b + 1)]? = _; rw [show 1 + 1 + (b + 1) = b + 1 + 1 + 1 from by omega]; exact rb)
      · show (rest W _ ⟨W 0, 0, List.replicate 16 0, 2⟩).2 = a
        rw [run_skip (k := a) rfl]
        exact run_ret (by show (ldI :: ⟨c, 0, b + 1, 5⟩ :: skipI a :: rets 0 m)[2 + 1 + a]? = _; rw [show 2 + 1 + a = a + 1 + 1 + 1 from by omega]; exact ra)
  · rw [if_neg hb2]
    by_cases ha2 : a + 1 ≤ 253
    · rw [if_pos ha2, run_if hc (s := ⟨W 0, 0, List.replicate 16 0, 1⟩) (t := a + 1) (f := 0) rfl]
      simp only [← hhv]
      cases hv
      · show (rest W _ ⟨W 0, 0, List.replicate 16 0, 2⟩).2 = b
        rw [run_skip (k := b) rfl]
        exact run_ret (by show (ldI :: ⟨c, a + 1, 0, 5⟩ :: skipI b :: rets 0 m)[2 + 1 + b]? = _; rw [show 2 + 1 + b = b + 1 + 1 + 1 from by omega]; exact rb)
      · exact run_ret (by show (ldI :: ⟨c, a + 1, 0, 5⟩ :: skipI b :: rets 0 m)[1 + 1 + (a + 1)]? = _; rw [show 1 + 1 + (a + 1) = a + 1 + 1 + 1 from by omega]; exact ra)
    · rw [if_neg ha2, run_if hc (s := ⟨W 0, 0, List.replicate 16 0, 1⟩) (t := 0) (f := 1) rfl]
      simp only [← hhv]
      cases hv
      · show (rest W _ ⟨W 0, 0, List.replicate 16 0, 3⟩).2 = b
        rw [run_skip (k := b) rfl]
        exact run_ret (by show (ldI :: ⟨c, 0, 1, 5⟩ :: skipI (a + 1) :: skipI b :: rets 0 m)[3 + 1 + b]? = _; rw [show 3 + 1 + b = b + 1 + 1 + 1 + 1 from by omega]; exact rb)
      · show (rest W _ ⟨W 0, 0, List.replicate 16 0, 2⟩).2 = a
        rw [run_skip (k := a + 1) rfl]
        exact run_ret (by show (ldI :: ⟨c, 0, 1, 5⟩ :: skipI (a + 1) :: skipI b :: rets 0 m)[2 + 1 + (a + 1)]? = _; rw [show 2 + 1 + (a + 1) = a + 1 + 1 + 1 + 1 from by omega]; exact ra)
theorem sz_yes {c : Nat} (hc : c = 21 ∨ c = 69) : holdsN (c / 16) 5 5 = true ∧ holdsN (c / 16) 0 5 = false := by rcases hc with rfl | rfl <;> exact ⟨rfl, rfl⟩
end Go.Proofs.Ytjgackejkkglcaa.Ju
