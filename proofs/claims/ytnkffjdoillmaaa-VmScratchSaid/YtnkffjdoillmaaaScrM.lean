/- Scratch numbers stored one behind the other, then one loaded: as lists. -/
import Derived.Test.YtnkffjdoillmaaaVmS
namespace Go.Proofs.Ytnkffjdoillmaaa
/-- The two instructions for the i-th number. -/
def stP (n i : Nat) : List Ins := if i % 2 = 0 then [⟨0, 0, 0, n⟩, ⟨2, 0, 0, i⟩] else [⟨1, 0, 0, n⟩, ⟨3, 0, 0, i⟩]
def stL (l : List Nat) : Nat → List Ins
  | 0 => []
  | n + 1 => stL l n ++ stP (l.getD n 0) n
theorem stP_len (n i : Nat) : (stP n i).length = 2 := by unfold stP; split <;> rfl
theorem stL_len (l : List Nat) : ∀ n, (stL l n).length = 2 * n
  | 0 => rfl
  | n + 1 => by rw [stL, List.length_append, stL_len l n, stP_len]; omega
theorem stL_at (l : List Nat) : ∀ (n j r : Nat), j < n → r < 2 → (stL l n)[2 * j + r]? = (stP (l.getD j 0) j)[r]?
  | 0, j, r, h, _ => by omega
  | n + 1, j, r, h, hr => by
    rw [stL]
    by_cases hj : j < n
    · rw [List.getElem?_append_left (by rw [stL_len]; omega)]; exact stL_at l n j r hj hr
    · obtain rfl : j = n := by omega
      rw [List.getElem?_append_right (by rw [stL_len]; omega), stL_len]
      congr 1; omega
/-- All stores, then this. -/
def scP (l : List Nat) (t : List Ins) : List Ins := stL l l.length ++ t
theorem scP_len (l : List Nat) (t : List Ins) : (scP l t).length = 2 * l.length + t.length := by rw [scP, List.length_append, stL_len]
theorem scP_at (l : List Nat) (t : List Ins) (j r : Nat) (hj : j < l.length) (hr : r < 2) : (scP l t)[2 * j + r]? = (stP (l.getD j 0) j)[r]? := by
  unfold scP; rw [List.getElem?_append_left (by rw [stL_len]; omega)]; exact stL_at l _ j r hj hr
theorem scP_end (l : List Nat) (t : List Ins) (r : Nat) : (scP l t)[2 * l.length + r]? = t[r]? := by
  unfold scP; rw [List.getElem?_append_right (by rw [stL_len]; omega), stL_len]; congr 1; omega
/-- Behind n of them. -/
theorem sc_live (W : Nat → Nat) (l : List Nat) (t : List Ins) (h16 : l.length ≤ 16) : ∀ n, n ≤ l.length → ∃ ts s, Live W (scP l t) ts s ∧ ts.length = 2 * n ∧ s.nx = 2 * n ∧ s.m.length = 16 ∧ ∀ j, j < n → s.m.getD j 0 = l.getD j 0
  | 0, _ => ⟨[], mc0, live_0 _ _, rfl, rfl, rfl, fun j h => by omega⟩
  | n + 1, hn => by
    obtain ⟨ts, s, h1, h2, h3, h4, h5⟩ := sc_live W l t h16 n (by omega)
    have a0 := scP_at l t n 0 (by omega) (by omega)
    have a1 := scP_at l t n 1 (by omega) (by omega)
    rw [Nat.add_zero, ← h3] at a0
    by_cases he : n % 2 = 0
    · simp only [stP, he, if_true, List.getElem?_cons_zero, List.getElem?_cons_succ] at a0 a1
      have s1 : stepN W ⟨0, 0, 0, l.getD n 0⟩ s = ({ s with a := l.getD n 0, nx := s.nx + 1 }, none) := by simp [stepN, ldN]
      have l1 := live_none h1 a0 s1
      have s2 : stepN W ⟨2, 0, 0, n⟩ { s with a := l.getD n 0, nx := s.nx + 1 } = ({ s with a := l.getD n 0, m := s.m.set n (l.getD n 0), nx := s.nx + 1 + 1 }, none) := by simp [stepN]
      have l2 := live_none l1 (show (scP l t)[s.nx + 1]? = _ from by rw [h3]; exact a1) s2
      refine ⟨_, _, l2, by simp; omega, by simp; omega, by simp [h4], fun j hj => ?_⟩
      dsimp only
      rw [getD_set0]
      by_cases e : j = n
      · subst e; rw [if_pos ⟨rfl, by omega⟩]
      · rw [if_neg (fun h => e h.1)]; exact h5 j (by omega)
    · simp only [stP, he, if_false, List.getElem?_cons_zero, List.getElem?_cons_succ] at a0 a1
      have s1 : stepN W ⟨1, 0, 0, l.getD n 0⟩ s = ({ s with x := l.getD n 0, nx := s.nx + 1 }, none) := by simp [stepN, ldN]
      have l1 := live_none h1 a0 s1
      have s2 : stepN W ⟨3, 0, 0, n⟩ { s with x := l.getD n 0, nx := s.nx + 1 } = ({ s with x := l.getD n 0, m := s.m.set n (l.getD n 0), nx := s.nx + 1 + 1 }, none) := by simp [stepN]
      have l2 := live_none l1 (show (scP l t)[s.nx + 1]? = _ from by rw [h3]; exact a1) s2
      refine ⟨_, _, l2, by simp; omega, by simp; omega, by simp [h4], fun j hj => ?_⟩
      dsimp only
      rw [getD_set0]
      by_cases e : j = n
      · subst e; rw [if_pos ⟨rfl, by omega⟩]
      · rw [if_neg (fun h => e h.1)]; exact h5 j (by omega)
def tA (k : Nat) : List Ins := [⟨96, 0, 0, k⟩, ⟨22, 0, 0, 0⟩]
def tB (k : Nat) : List Ins := [⟨97, 0, 0, k⟩, ⟨135, 0, 0, 0⟩, ⟨22, 0, 0, 0⟩]
theorem scA_run (W : Nat → Nat) (l : List Nat) (k : Nat) (h16 : l.length ≤ 16) (hk : k < l.length) : (runN W (scP l (tA k))).2 = l.getD k 0 ∧ (runN W (scP l (tA k))).1.length = (scP l (tA k)).length := by
  obtain ⟨ts, s, h1, h2, h3, h4, h5⟩ := sc_live W l (tA k) h16 l.length (Nat.le_refl _)
  have a0 := scP_end l (tA k) 0
  have a1 := scP_end l (tA k) 1
  rw [Nat.add_zero, ← h3] at a0
  rw [← h3] at a1
  have s1 : stepN W ⟨96, 0, 0, k⟩ s = ({ s with a := l.getD k 0, nx := s.nx + 1 }, none) := by
    have h6 := h5 k hk
    simp [stepN, ldN]
    simpa using h6
  have l1 := live_none h1 a0 s1
  have s2 : stepN W ⟨22, 0, 0, 0⟩ { s with a := l.getD k 0, nx := s.nx + 1 } = ({ s with a := l.getD k 0, nx := s.nx + 1 + 1 }, some (l.getD k 0)) := by simp [stepN]
  have l2 := live_some l1 a1 s2
  rw [l2]
  exact ⟨rfl, by rw [scP_len]; simp [h2, tA]⟩
theorem scB_run (W : Nat → Nat) (l : List Nat) (k : Nat) (h16 : l.length ≤ 16) (hk : k < l.length) : (runN W (scP l (tB k))).2 = l.getD k 0 ∧ (runN W (scP l (tB k))).1.length = (scP l (tB k)).length := by
  obtain ⟨ts, s, h1, h2, h3, h4, h5⟩ := sc_live W l (tB k) h16 l.length (Nat.le_refl _)
  have a0 := scP_end l (tB k) 0
  have a1 := scP_end l (tB k) 1
  have a2 := scP_end l (tB k) 2
  rw [Nat.add_zero, ← h3] at a0
  rw [← h3] at a1 a2
  have s1 : stepN W ⟨97, 0, 0, k⟩ s = ({ s with x := l.getD k 0, nx := s.nx + 1 }, none) := by
    have h6 := h5 k hk
    simp [stepN, ldN]
    simpa using h6
  have l1 := live_none h1 a0 s1
  have s2 : stepN W ⟨135, 0, 0, 0⟩ { s with x := l.getD k 0, nx := s.nx + 1 } = ({ s with a := l.getD k 0, x := l.getD k 0, nx := s.nx + 1 + 1 }, none) := by simp [stepN]
  have l2 := live_none l1 a1 s2
  have s3 : stepN W ⟨22, 0, 0, 0⟩ { s with a := l.getD k 0, x := l.getD k 0, nx := s.nx + 1 + 1 } = ({ s with a := l.getD k 0, x := l.getD k 0, nx := s.nx + 1 + 1 + 1 }, some (l.getD k 0)) := by simp [stepN]
  have l3 := live_some l2 a2 s3
  rw [l3]
  exact ⟨rfl, by rw [scP_len]; simp [h2, tB]⟩
/-- An instruction of such a list. -/
theorem scP_in {l : List Nat} {t : List Ins} {a : Nat} {i : Ins} (h : (scP l t)[a]? = some i) : (∃ j r, j < l.length ∧ r < 2 ∧ a = 2 * j + r ∧ (stP (l.getD j 0) j)[r]? = some i) ∨ ∃ r, a = 2 * l.length + r ∧ t[r]? = some i := by
  by_cases ha : a < 2 * l.length
  · refine .inl ⟨a / 2, a % 2, by omega, by omega, by omega, ?_⟩
    rw [← scP_at l t (a / 2) (a % 2) (by omega) (by omega), ← h]; congr 1; omega
  · refine .inr ⟨a - 2 * l.length, by omega, ?_⟩
    rw [← scP_end l t, ← h]; congr 1; omega
theorem stP_in {n j r : Nat} {i : Ins} (h : (stP n j)[r]? = some i) (hr : r < 2) : (r = 0 ∧ (i = ⟨0, 0, 0, n⟩ ∨ i = ⟨1, 0, 0, n⟩)) ∨ (r = 1 ∧ (i = ⟨2, 0, 0, j⟩ ∨ i = ⟨3, 0, 0, j⟩)) := by
  unfold stP at h
  rcases (by omega : r = 0 ∨ r = 1) with rfl | rfl <;> split at h <;> simp at h <;> simp [← h]
theorem sc_un {l : List Nat} {t : List Ins} {k a : Nat} (hk : k < l.length) (h : Un (scP l t) k a) : a ≤ 2 * k + 1 := by
  induction h with
  | zero => omega
  | step h1 h2 h3 h4 ih =>
    rename_i j i to
    rcases scP_in h2 with ⟨q, r, hq, hr, rfl, hi⟩ | ⟨r, rfl, _⟩
    · have hto : to = 2 * q + r + 1 := by
        rcases stP_in hi hr with ⟨_, e | e⟩ | ⟨_, e | e⟩ <;> (subst e; simpa [ways, rel] using h4)
      by_cases hqk : 2 * q + r = 2 * k + 1
      · exfalso
        obtain rfl : q = k := by omega
        obtain rfl : r = 1 := by omega
        rcases stP_in hi hr with ⟨e0, _⟩ | ⟨_, e | e⟩
        · cases e0
        · subst e; exact h3 ⟨rfl, rfl⟩
        · subst e; exact h3 ⟨rfl, rfl⟩
      · omega
    · omega
theorem sc_good {l : List Nat} {t : List Ins} {k : Nat} (h16 : l.length ≤ 16) (hk : k < l.length) (ht0 : 0 < t.length) (ht : t.length ≤ 3) (he : ∀ i ∈ t, ∀ n, alone i n = 0) (hl : ∀ i, t[t.length - 1]? = some i → i.c % 8 = 6) (hts : ∀ i ∈ t, takes i = true → i.k = k) : Good (scP l t) := by
  refine ⟨by rw [scP_len]; omega, by rw [scP_len]; omega, fun a i hi => ?_, fun i hi => ?_, fun a i hi htk hu => ?_⟩
  · rcases scP_in hi with ⟨q, r, hq, hr, rfl, h⟩ | ⟨r, rfl, h⟩
    · rcases stP_in h hr with ⟨_, rfl | rfl⟩ | ⟨_, rfl | rfl⟩
      · exact alone_zero.2 ⟨rfl, rfl, rfl⟩
      · exact alone_zero.2 ⟨rfl, rfl, rfl⟩
      · exact alone_zero.2 ⟨rfl, rfl, by simp [rangeB]; omega⟩
      · exact alone_zero.2 ⟨rfl, rfl, by simp [rangeB]; omega⟩
    · exact he i (List.mem_of_getElem? h) _
  · rw [scP_len, show 2 * l.length + t.length - 1 = 2 * l.length + (t.length - 1) by omega, scP_end] at hi
    exact hl i hi
  · rcases scP_in hi with ⟨q, r, hq, hr, rfl, h⟩ | ⟨r, rfl, h⟩
    · rcases stP_in h hr with ⟨_, rfl | rfl⟩ | ⟨_, rfl | rfl⟩ <;> simp [takes] at htk
    · rw [hts i (List.mem_of_getElem? h) htk] at hu
      have := sc_un hk hu
      omega
theorem scA_good {l : List Nat} {k : Nat} (h16 : l.length ≤ 16) (hk : k < l.length) : Good (scP l (tA k)) := by
  refine sc_good h16 hk (by simp [tA]) (by simp [tA]) (fun i hi n => ?_) (fun i hi => ?_) (fun i hi ht => ?_)
  · simp only [tA, List.mem_cons, List.not_mem_nil, or_false] at hi
    rcases hi with rfl | rfl
    · exact alone_zero.2 ⟨rfl, by simp [jumpB], by simp [rangeB]; omega⟩
    · exact alone_zero.2 ⟨rfl, by simp [jumpB], rfl⟩
  · simp [tA] at hi; subst hi; rfl
  · simp only [tA, List.mem_cons, List.not_mem_nil, or_false] at hi
    rcases hi with rfl | rfl
    · rfl
    · simp [takes] at ht
theorem scB_good {l : List Nat} {k : Nat} (h16 : l.length ≤ 16) (hk : k < l.length) : Good (scP l (tB k)) := by
  refine sc_good h16 hk (by simp [tB]) (by simp [tB]) (fun i hi n => ?_) (fun i hi => ?_) (fun i hi ht => ?_)
  · simp only [tB, List.mem_cons, List.not_mem_nil, or_false] at hi
    rcases hi with rfl | rfl | rfl
    · exact alone_zero.2 ⟨rfl, by simp [jumpB], by simp [rangeB]; omega⟩
    · exact alone_zero.2 ⟨rfl, by simp [jumpB], rfl⟩
    · exact alone_zero.2 ⟨rfl, by simp [jumpB], rfl⟩
  · simp [tB] at hi; subst hi; rfl
  · simp only [tB, List.mem_cons, List.not_mem_nil, or_false] at hi
    rcases hi with rfl | rfl | rfl
    · rfl
    · simp [takes] at ht
    · simp [takes] at ht
theorem sc_ok {l : List Nat} {t : List Ins} (h16 : l.length ≤ 16) (hl : ∀ x ∈ l, x < 4294967296) (ht : ∀ i ∈ t, i.ok) : ∀ i ∈ scP l t, i.ok := by
  intro i hi
  obtain ⟨a, ha⟩ := List.getElem?_of_mem hi
  rcases scP_in ha with ⟨q, r, hq, hr, rfl, h⟩ | ⟨r, rfl, h⟩
  · have hx : l.getD q 0 < 4294967296 := by
      rw [List.getD_eq_getElem?_getD, List.getElem?_eq_getElem hq]; exact hl _ (List.getElem_mem hq)
    rcases stP_in h hr with ⟨_, rfl | rfl⟩ | ⟨_, rfl | rfl⟩
    · exact ⟨by show 0 < 65536; omega, by show 0 < 256; omega, by show 0 < 256; omega, hx⟩
    · exact ⟨by show 1 < 65536; omega, by show 0 < 256; omega, by show 0 < 256; omega, hx⟩
    · exact ⟨by show 2 < 65536; omega, by show 0 < 256; omega, by show 0 < 256; omega, by show q < 4294967296; omega⟩
    · exact ⟨by show 3 < 65536; omega, by show 0 < 256; omega, by show 0 < 256; omega, by show q < 4294967296; omega⟩
  · exact ht i (List.mem_of_getElem? h)
end Go.Proofs.Ytnkffjdoillmaaa
