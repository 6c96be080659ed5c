/- What is wrong with a filter is one thing: by what shows it. Some filters that may be loaded. -/
import Derived.Test.YtnkffjdoillmaaaStripM
namespace Go.Proofs.Ytnkffjdoillmaaa
section
variable {l : List Ins} {a e : Nat}
theorem Chk.of_none (h : Chk l a e) (h0 : l.length = 0) : a = 0 ∧ e = 203 := by
  cases h with
  | none _ => exact ⟨rfl, rfl⟩
  | many h1 => omega
  | each _ i _ k0 => omega
  | ends i k0 => omega
  | scr _ i k0 => omega
  | good g => have := g.pos; omega
theorem Chk.of_many (h : Chk l a e) (h0 : 4096 < l.length) : a = 4096 ∧ e = 205 := by
  cases h with
  | none _ => omega
  | many h1 => exact ⟨rfl, rfl⟩
  | each _ i _ k0 k1 => omega
  | ends i k0 k1 => omega
  | scr _ i k0 k1 => omega
  | good g => have := g.many; omega
theorem Chk.of_each (h : Chk l a e) {p er : Nat} {x : Ins} (h0 : 0 < l.length) (h1 : l.length ≤ 4096) (h2 : ∀ (j : Nat) (y : Ins), j < p → l[j]? = some y → alone y (l.length - j - 1) = 0) (h3 : l[p]? = some x) (h4 : alone x (l.length - p - 1) = er) (h5 : er ≠ 0) : a = p ∧ e = er := by
  cases h with
  | none _ => omega
  | many _ => omega
  | each _ i _ k0 k1 k2 k3 k4 k5 =>
    rcases Nat.lt_trichotomy a p with h6 | h6 | h6
    · exact absurd (k4 ▸ h2 a i h6 k3) k5
    · subst h6
      rw [h3] at k3
      cases k3
      exact ⟨rfl, k4.symm.trans h4⟩
    · exact absurd (h4 ▸ k2 p x h6 h3) h5
  | ends i k0 k1 k2 => exact absurd (h4 ▸ k2 p x h3) h5
  | scr _ i k0 k1 k2 => exact absurd (h4 ▸ k2 p x h3) h5
  | good g => exact absurd (h4 ▸ g.each p x h3) h5
theorem Chk.of_ends (h : Chk l a e) {x : Ins} (h0 : 0 < l.length) (h1 : l.length ≤ 4096) (h2 : ∀ (j : Nat) (y : Ins), l[j]? = some y → alone y (l.length - j - 1) = 0) (h3 : l[l.length - 1]? = some x) (h4 : x.c % 8 ≠ 6) : a = l.length - 1 ∧ e = 209 := by
  cases h with
  | none _ => omega
  | many _ => omega
  | each _ i _ k0 k1 k2 k3 k4 k5 => exact absurd (k4 ▸ h2 a i k3) k5
  | ends i k0 k1 k2 => exact ⟨rfl, rfl⟩
  | scr _ i k0 k1 k2 k3 => exact absurd (k3 x h3) h4
  | good g => exact absurd (g.ends x h3) h4
theorem Chk.of_scr (h : Chk l a e) {p : Nat} {x : Ins} (h0 : 0 < l.length) (h1 : l.length ≤ 4096) (h2 : ∀ (j : Nat) (y : Ins), l[j]? = some y → alone y (l.length - j - 1) = 0) (h3 : ∀ (y : Ins), l[l.length - 1]? = some y → y.c % 8 = 6)
    (h4 : ∀ (j : Nat) (y : Ins), j < p → l[j]? = some y → takes y = true → ¬ Un l y.k j) (h5 : l[p]? = some x) (h6 : takes x = true) (h7 : Un l x.k p) : a = p ∧ e = 2 := by
  cases h with
  | none _ => omega
  | many _ => omega
  | each _ i _ k0 k1 k2 k3 k4 k5 => exact absurd (k4 ▸ h2 a i k3) k5
  | ends i k0 k1 k2 k3 k4 => exact absurd (h3 i k3) k4
  | scr _ i k0 k1 k2 k3 k4 k5 k6 k7 =>
    rcases Nat.lt_trichotomy a p with h8 | h8 | h8
    · exact absurd k7 (h4 a i h8 k5 k6)
    · exact ⟨h8, rfl⟩
    · exact absurd h7 (k4 p x h8 h5 h6)
  | good g => exact absurd h7 (g.scr p x h5 h6)
theorem Chk.of_good (h : Chk l a e) (g : Good l) : a = 0 ∧ e = 0 := by
  have h0 := h.good_iff.2 g
  subst h0
  exact ⟨h.zero, rfl⟩
end
theorem ret_good (k : Nat) : Good [ret k] := by
  refine ⟨by simp, by simp, ?_, ?_, ?_⟩
  · intro a i hi
    match a, hi with
    | 0, hi => cases hi; exact alone_ret _ _
  · intro i hi; cases hi; rfl
  · intro a i hi ht
    match a, hi with
    | 0, hi => cases hi; simp [takes, ret] at ht
/-! Many Rets behind a jump. -/
def skip (k : Nat) : Ins := ⟨5, 0, 0, k⟩
def manyL (n k : Nat) : List Ins := skip k :: List.replicate (n - 1) (ret 0)
theorem many_at {n k a : Nat} {i : Ins} (h : (manyL n k)[a]? = some i) : (a = 0 ∧ i = skip k) ∨ (0 < a ∧ i = ret 0) := by
  unfold manyL at h
  match a, h with
  | 0, h => exact .inl ⟨rfl, (Option.some.inj h).symm⟩
  | a + 1, h =>
    rw [List.getElem?_cons_succ, List.getElem?_replicate] at h
    split at h
    · exact .inr ⟨by omega, (Option.some.inj h).symm⟩
    · cases h
theorem many_len {n k : Nat} (h : 0 < n) : (manyL n k).length = n := by simp [manyL]; omega
theorem skip_alone (k n : Nat) : alone (skip k) n = if k < n then 0 else 207 := by
  by_cases h : k < n
  · rw [if_pos h]
    exact alone_zero.2 ⟨rfl, by simp [jumpB, rel, skip, h], rfl⟩
  · rw [if_neg h]
    have h1 : jumpB (skip k) n = false := by simp [jumpB, rel, skip]; omega
    have h2 : knownB (skip k).c = true := rfl
    simp [alone, h1, h2]
theorem many_good {n k : Nat} (h0 : 1 < n) (h1 : n ≤ 4096) (h2 : k ≤ n - 2) : Good (manyL n k) := by
  have hl := many_len (n := n) (k := k) (by omega)
  refine ⟨by omega, by omega, ?_, ?_, ?_⟩
  · intro a i hi
    rcases many_at hi with ⟨rfl, rfl⟩ | ⟨_, rfl⟩
    · rw [skip_alone, if_pos (by omega)]
    · exact alone_ret _ _
  · intro i hi
    rcases many_at hi with ⟨h3, rfl⟩ | ⟨_, rfl⟩
    · omega
    · rfl
  · intro a i hi ht
    rcases many_at hi with ⟨rfl, rfl⟩ | ⟨_, rfl⟩
    · simp [takes, skip] at ht
    · simp [takes, ret] at ht
theorem many_jump {n k : Nat} (h0 : 1 < n) (h1 : n ≤ 4096) (h2 : n - 2 < k) {a e : Nat} (h : Chk (manyL n k) a e) : a = 0 ∧ e = 207 := by
  have hl := many_len (n := n) (k := k) (by omega)
  exact h.of_each (x := skip k) (by omega) (by omega) (fun j y hj => by omega) rfl (by rw [skip_alone, if_neg (by omega)]) (by omega)
/-! A scratch number stored on one of two ways, or on both. -/
def scrL (a b : Nat) : List Ins := [⟨32, 0, 0, 0⟩, ⟨21, 0, 2, 5⟩, ⟨2, 0, 0, a⟩, ⟨5, 0, 0, 1⟩, ⟨2, 0, 0, b⟩, ⟨96, 0, 0, a⟩, ⟨6, 0, 0, 1⟩]
theorem lt7 {α : Type} {l : List α} {j : Nat} {y : α} (h : l[j]? = some y) : j < l.length := (List.getElem?_eq_some_iff.1 h).1
theorem scr_each {a b : Nat} (ha : a < 16) (hb : b < 16) (j : Nat) (y : Ins) (h : (scrL a b)[j]? = some y) : alone y ((scrL a b).length - j - 1) = 0 := by
  have hj : j < 7 := lt7 h
  rcases (by omega : j = 0 ∨ j = 1 ∨ j = 2 ∨ j = 3 ∨ j = 4 ∨ j = 5 ∨ j = 6) with rfl | rfl | rfl | rfl | rfl | rfl | rfl <;> (cases h; refine alone_zero.2 ⟨by rfl, ?_, ?_⟩ <;> simp [jumpB, rel, rangeB, scrL, ha, hb])
theorem scr_ends {a b : Nat} (y : Ins) (h : (scrL a b)[(scrL a b).length - 1]? = some y) : y.c % 8 = 6 := by cases h; rfl
theorem scr_takes {a b j : Nat} {y : Ins} (h : (scrL a b)[j]? = some y) (ht : takes y = true) : j = 5 ∧ y.k = a := by
  have hj : j < 7 := lt7 h
  rcases (by omega : j = 0 ∨ j = 1 ∨ j = 2 ∨ j = 3 ∨ j = 4 ∨ j = 5 ∨ j = 6) with rfl | rfl | rfl | rfl | rfl | rfl | rfl <;> cases h <;> first | exact ⟨rfl, rfl⟩ | (simp [takes] at ht)
theorem scr_un {a b : Nat} (hab : a ≠ b) : Un (scrL a b) a 5 := by
  have s0 : Un (scrL a b) a 1 := .step .zero (i := ⟨32, 0, 0, 0⟩) rfl (by simp [puts]) (by simp [ways, rel])
  have s1 : Un (scrL a b) a 4 := .step s0 (i := ⟨21, 0, 2, 5⟩) rfl (by simp [puts]) (by simp [ways, rel])
  exact .step s1 (i := ⟨2, 0, 0, b⟩) rfl (by simp [puts]; omega) (by simp [ways, rel])
theorem scr_same {a j : Nat} (h : Un (scrL a a) a j) : j = 0 ∨ j = 1 ∨ j = 2 ∨ j = 4 := by
  induction h with
  | zero => omega
  | @step j i to h1 h2 h3 h4 ih =>
    rcases ih with rfl | rfl | rfl | rfl
    · cases h2; simp [ways, rel] at h4; omega
    · cases h2; simp [ways, rel] at h4; omega
    · cases h2; simp [puts] at h3
    · cases h2; simp [puts] at h3
theorem scr_chk {a b p e : Nat} (ha : a < 16) (hb : b < 16) (h : Chk (scrL a b) p e) : (a = b → p = 0 ∧ e = 0) ∧ (a ≠ b → p = 5 ∧ e = 2) := by
  constructor
  · rintro rfl
    refine h.of_good ⟨by simp [scrL], by simp [scrL], scr_each ha hb, scr_ends, fun j y hy ht hu => ?_⟩
    obtain ⟨rfl, rfl⟩ := scr_takes hy ht
    have := scr_same hu
    omega
  · intro hab
    exact h.of_scr (x := ⟨96, 0, 0, a⟩) (by simp [scrL]) (by simp [scrL]) (scr_each ha hb) scr_ends (fun j y hj hy ht => by have := (scr_takes hy ht).1; omega) rfl rfl (scr_un hab)
def bothL (a b : Nat) : List Ins := ⟨3, 0, 0, a⟩ :: scrL a b
theorem both_at {a b j : Nat} {y : Ins} (h : (bothL a b)[j]? = some y) : (j = 0 ∧ y = ⟨3, 0, 0, a⟩) ∨ ∃ m, j = m + 1 ∧ (scrL a b)[m]? = some y := by
  match j, h with
  | 0, h => exact .inl ⟨rfl, (Option.some.inj h).symm⟩
  | m + 1, h => exact .inr ⟨m, rfl, h⟩
theorem both_un {a b j : Nat} (h : Un (bothL a b) a j) : j = 0 := by
  induction h with
  | zero => rfl
  | step h1 h2 h3 h4 ih => subst ih; cases h2; simp [puts] at h3
theorem both_good {a b : Nat} (ha : a < 16) (hb : b < 16) : Good (bothL a b) := by
  have hl : (bothL a b).length = 8 := rfl
  refine ⟨by omega, by omega, ?_, ?_, ?_⟩
  · intro j y hy
    rcases both_at hy with ⟨rfl, rfl⟩ | ⟨m, rfl, hm⟩
    · refine alone_zero.2 ⟨by rfl, ?_, ?_⟩ <;> simp [jumpB, rangeB, ha]
    · have := scr_each ha hb m y hm
      rw [hl]
      have h7 : (scrL a b).length = 7 := rfl
      rw [h7] at this
      rw [show 8 - (m + 1) - 1 = 7 - m - 1 by omega]; exact this
  · intro y hy
    rw [hl] at hy
    cases hy; rfl
  · intro j y hy ht hu
    rcases both_at hy with ⟨rfl, rfl⟩ | ⟨m, rfl, hm⟩
    · simp [takes] at ht
    · obtain ⟨rfl, hk⟩ := scr_takes hm ht
      rw [hk] at hu
      have := both_un hu
      omega
theorem first_chk {a p e : Nat} (ha : a < 16) (h : Chk [⟨97, 0, 0, a⟩, ret 1] p e) : p = 0 ∧ e = 2 := by
  refine h.of_scr (x := ⟨97, 0, 0, a⟩) (by simp) (by simp) (fun j y hy => ?_) (fun y hy => by cases hy; rfl) (fun j y hj => by omega) rfl rfl .zero
  have hj : j < 2 := lt7 hy
  rcases (by omega : j = 0 ∨ j = 1) with rfl | rfl
  · cases hy
    refine alone_zero.2 ⟨by rfl, ?_, ?_⟩ <;> simp [jumpB, rangeB, ha]
  · cases hy; exact alone_ret _ _
theorem load_chk {p e : Nat} (h : Chk [⟨32, 0, 0, 0⟩] p e) : p = 0 ∧ e = 209 := by
  refine h.of_ends (x := ⟨32, 0, 0, 0⟩) (by simp) (by simp) (fun j y hy => ?_) rfl (by decide)
  have hj : j < 1 := lt7 hy
  obtain rfl : j = 0 := by omega
  cases hy; rfl
end Go.Proofs.Ytnkffjdoillmaaa

