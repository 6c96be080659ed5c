/- Rights as plain numbers, texts and lists: what is counted, read and told. -/
import Derived.Lib.Join
namespace Go.Proofs.YtinofjbnfmalkaaGreatDoor.Rt

def nms : List (List UInt8) := [[101, 120, 101, 99], [119, 114, 105, 116, 101], [114, 101, 97, 100], [108, 105, 115, 116], [114, 109, 100, 105, 114], [114, 109, 102, 105, 108, 101], [109, 107, 100, 105, 114], [109, 107, 102, 105, 108, 101], [109, 107, 108, 105, 110, 107], [114, 101, 102, 101, 114], [116, 114, 117, 110, 99, 97, 116, 101], [], [], [], [98, 105, 110, 100], [99, 111, 110, 110, 101, 99, 116]]
def nm (i : Nat) : List UInt8 := nms.getD i []
def nbits : List Nat := [0, 1, 2, 3, 4, 5, 6, 7, 8, 9, 10, 14, 15]
def idx (l : List UInt8) : Option Nat := nbits.find? (fun i => nm i == l)
def oneV (l : List UInt8) : Nat := match idx l with | some i => 2 ^ i | none => 0
def words : List UInt8 → List (List UInt8)
  | [] => [[]]
  | c :: r => if c = 44 then [] :: words r else (match words r with | [] => [[c]] | x :: y => (c :: x) :: y)
def pars : Nat → List (List UInt8) → Nat × Nat
  | a, [] => (a, 0)
  | a, x :: r => match idx x with
    | none => (0, 202)
    | some i => if a.testBit i then (0, 206) else pars (a ||| 2 ^ i) r
def named (n : Nat) : List Nat := nbits.filter n.testBit
def textL (n : Nat) : List UInt8 := if named n = [] then [45] else Lib.join ((named n).map nm) [44]

theorem nbits_mem : ∀ i, i < 16 → (i ∈ nbits ↔ nm i ≠ []) := by decide
theorem nbits_lt : ∀ i ∈ nbits, i < 16 := by decide
theorem nm_inj : ∀ i ∈ nbits, ∀ j ∈ nbits, nm i = nm j → i = j := by decide
theorem idx_some {l : List UInt8} {i : Nat} (h : idx l = some i) : i ∈ nbits ∧ nm i = l :=
  ⟨List.mem_of_find?_eq_some h, by simpa using List.find?_some h⟩
theorem idx_of {i : Nat} (h : i ∈ nbits) : idx (nm i) = some i := by
  cases e : idx (nm i) with
  | none =>
    have := (List.find?_eq_none.1 e) i h
    simp at this
  | some j =>
    have := idx_some e
    rw [nm_inj _ this.1 _ h this.2]
theorem idx_none {l : List UInt8} (h : ∀ i, i < 16 → nm i = l → l = []) : idx l = none := by
  cases e : idx l with
  | none => rfl
  | some j =>
    obtain ⟨h1, h2⟩ := idx_some e
    have h3 := h j (nbits_lt j h1) h2
    exact absurd (h2.trans h3) ((nbits_mem j (nbits_lt j h1)).1 h1)
theorem idx_hit {l : List UInt8} {i : Nat} (hi : i < 16) (h : nm i = l) (hl : l ≠ []) : idx l = some i := by
  subst h; exact idx_of ((nbits_mem i hi).2 hl)
theorem words_cut : ∀ l : List UInt8, words l = (if (44 : UInt8) ∈ l then l.takeWhile (· ≠ 44) :: words ((l.dropWhile (· ≠ 44)).drop 1) else [l])
  | [] => by simp [words]
  | c :: r => by
    have ih := words_cut r
    by_cases h : c = 44
    · subst h; simp [words]
    · have h2 : (44 : UInt8) ≠ c := fun e => h e.symm
      rw [words, if_neg h, ih]
      by_cases hm : (44 : UInt8) ∈ r
      · simp [hm, h]
      · simp [hm, h2]
theorem words_ne (l : List UInt8) : words l ≠ [] := by
  rw [words_cut]; split <;> simp
theorem pars_lt : ∀ (l : List (List UInt8)) (a : Nat), a < 65536 → (pars a l).1 < 65536
  | [], a, h => h
  | x :: r, a, h => by
    unfold pars
    cases e : idx x with
    | none => show (0 : Nat) < 65536; decide
    | some i =>
      have := nbits_lt i (idx_some e).1
      have h2 : 2 ^ i < 65536 := Nat.pow_lt_pow_right (by omega) this
      simp only
      split
      · decide
      · exact pars_lt r _ (Nat.or_lt_two_pow (n := 16) h h2)
theorem words_join : ∀ (x : List UInt8) (r : List (List UInt8)), (∀ y ∈ x :: r, (44 : UInt8) ∉ y) → words (Lib.join (x :: r) [44]) = x :: r
  | x, [], h => by
    rw [Lib.join_one, words_cut, if_neg (h x (by simp))]
  | x, y :: r, h => by
    have ih := words_join y r (fun z hz => h z (by simp at hz ⊢; exact .inr hz))
    have hx : (44 : UInt8) ∉ x := h x (by simp)
    have e : Lib.join (x :: y :: r) [44] = x ++ 44 :: Lib.join (y :: r) [44] := by
      rw [Lib.join_cons, Lib.join_cons]; simp [Lib.joinTail]
    have hall : ∀ c ∈ x, (decide (c ≠ 44)) = true := fun c hc => by simp; intro e; subst e; exact hx hc
    rw [words_cut, e, if_pos (by simp)]
    rw [List.takeWhile_append_of_pos hall, List.dropWhile_append_of_pos hall]
    simp [ih]

theorem nm_comma : ∀ i, i < 16 → (44 : UInt8) ∉ nm i := by decide
theorem pars_bits : ∀ (l : List Nat) (a : Nat), (∀ i ∈ l, i ∈ nbits ∧ a.testBit i = false) → l.Nodup → pars a (l.map nm) = (l.foldl (fun b i => b ||| 2 ^ i) a, 0)
  | [], a, _, _ => rfl
  | i :: r, a, h, hn => by
    obtain ⟨h1, h2⟩ := h i (by simp)
    rw [List.map_cons, pars, idx_of h1]
    simp only [h2, Bool.false_eq_true, if_false]
    have hn' := List.nodup_cons.1 hn
    rw [pars_bits r _ (fun j hj => ?_) hn'.2]; rfl
    obtain ⟨h3, h4⟩ := h j (by simp [hj])
    refine ⟨h3, ?_⟩
    have : i ≠ j := fun e => hn'.1 (e ▸ hj)
    rw [Nat.testBit_or, h4, Nat.testBit_two_pow]; simp [this]
theorem foldl_bits : ∀ (l : List Nat) (a k : Nat), (l.foldl (fun b i => b ||| 2 ^ i) a).testBit k = (a.testBit k || decide (k ∈ l))
  | [], a, k => by simp
  | i :: r, a, k => by
    rw [List.foldl_cons, foldl_bits r, Nat.testBit_or, Nat.testBit_two_pow]
    by_cases h : k = i
    · subst h; simp
    · have : i ≠ k := fun e => h e.symm
      simp [h, this]
theorem mask_bits : ∀ k, k < 16 → Nat.testBit 51199 k = decide (k ∈ nbits) := by decide
theorem mask_high (k : Nat) (h : 16 ≤ k) : Nat.testBit 51199 k = false := Nat.testBit_lt_two_pow (Nat.lt_of_lt_of_le (by decide) (Nat.pow_le_pow_right (by omega) h : 2 ^ 16 ≤ 2 ^ k))
theorem mask_all (k : Nat) : Nat.testBit 51199 k = decide (k ∈ nbits) := by
  by_cases h : k < 16
  · exact mask_bits k h
  · rw [mask_high k (by omega)]
    symm; rw [decide_eq_false_iff_not]; intro hk; exact h (nbits_lt k hk)
theorem fold_named (n : Nat) : (named n).foldl (fun b i => b ||| 2 ^ i) 0 = n &&& 51199 := by
  apply Nat.eq_of_testBit_eq
  intro k
  rw [foldl_bits, Nat.testBit_and, mask_all, Nat.zero_testBit, Bool.false_or, named, Bool.eq_iff_iff]
  simp [and_comm]
theorem named_nil (n : Nat) : named n = [] ↔ n &&& 51199 = 0 := by
  constructor
  · intro h; rw [← fold_named, h]; rfl
  · intro h
    rw [named, List.filter_eq_nil_iff]
    intro i hi
    have e : (n &&& 51199).testBit i = false := by rw [h]; exact Nat.zero_testBit i
    rw [Nat.testBit_and, mask_all, decide_eq_true hi, Bool.and_true] at e
    simp [e]
theorem pars_text (n : Nat) : pars 0 (words (textL n)) = if n &&& 51199 = 0 then (0, 202) else (n &&& 51199, 0) := by
  by_cases h : named n = []
  · rw [if_pos ((named_nil n).1 h), textL, if_pos h]; decide
  · rw [if_neg (fun e => h ((named_nil n).2 e)), textL, if_neg h]
    obtain ⟨i, r, hr⟩ : ∃ i r, named n = i :: r := by cases e : named n with
      | nil => exact absurd e h
      | cons a b => exact ⟨a, b, rfl⟩
    have hm : ∀ i ∈ named n, i ∈ nbits := fun i hi => (List.mem_filter.1 hi).1
    have hw : words (Lib.join ((named n).map nm) [44]) = (named n).map nm := by
      rw [hr, List.map_cons, words_join]
      intro y hy
      rw [← List.map_cons, ← hr] at hy
      obtain ⟨j, hj, rfl⟩ := List.mem_map.1 hy
      exact nm_comma j (nbits_lt j (hm j hj))
    rw [hw, pars_bits _ _ (fun i hi => ⟨hm i hi, Nat.zero_testBit i⟩) (List.Pairwise.filter _ (show nbits.Nodup by decide)), fold_named]
end Go.Proofs.YtinofjbnfmalkaaGreatDoor.Rt

