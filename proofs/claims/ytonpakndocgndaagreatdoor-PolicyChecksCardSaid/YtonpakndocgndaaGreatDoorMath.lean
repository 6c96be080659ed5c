/- Instructions as plain numbers: which codes there are, their bytes, and back. -/
import Derived.Laws.BitsAllLaws
import Derived.Lib.BitFns
namespace Go.Proofs.YtonpakndocgndaaGreatDoor

/-- The codes that there are. -/
def codesL : List Nat := [32, 0, 96, 128, 1, 97, 129, 2, 3, 6, 22, 7, 135, 5, 132, 4, 12, 20, 28, 36, 44, 52, 60, 68, 76, 84, 92, 100, 108, 116, 124, 164, 172, 21, 29, 37, 45, 53, 61, 69, 77]
def knownB (n : Nat) : Bool := codesL.contains n
theorem known_true (n : Nat) (h : n = 32 ∨ n = 0 ∨ n = 96 ∨ n = 128 ∨ n = 1 ∨ n = 97 ∨ n = 129 ∨ n = 2 ∨ n = 3 ∨ n = 6 ∨ n = 22 ∨ n = 7 ∨ n = 135 ∨ n = 5 ∨ n = 132 ∨ n = 4 ∨ n = 12 ∨ n = 20 ∨ n = 28 ∨ n = 36 ∨ n = 44 ∨ n = 52 ∨ n = 60 ∨ n = 68 ∨ n = 76 ∨ n = 84 ∨ n = 92 ∨ n = 100 ∨ n = 108 ∨ n = 116 ∨ n = 124 ∨ n = 164 ∨ n = 172 ∨ n = 21 ∨ n = 29 ∨ n = 37 ∨ n = 45 ∨ n = 53 ∨ n = 61 ∨ n = 69 ∨ n = 77) : knownB n = true := by
  simp only [knownB, codesL, List.contains_iff_mem, List.mem_cons, List.not_mem_nil, or_false]
  exact h
theorem known_false (n : Nat) (h : ¬ (n = 32 ∨ n = 0 ∨ n = 96 ∨ n = 128 ∨ n = 1 ∨ n = 97 ∨ n = 129 ∨ n = 2 ∨ n = 3 ∨ n = 6 ∨ n = 22 ∨ n = 7 ∨ n = 135 ∨ n = 5 ∨ n = 132 ∨ n = 4 ∨ n = 12 ∨ n = 20 ∨ n = 28 ∨ n = 36 ∨ n = 44 ∨ n = 52 ∨ n = 60 ∨ n = 68 ∨ n = 76 ∨ n = 84 ∨ n = 92 ∨ n = 100 ∨ n = 108 ∨ n = 116 ∨ n = 124 ∨ n = 164 ∨ n = 172 ∨ n = 21 ∨ n = 29 ∨ n = 37 ∨ n = 45 ∨ n = 53 ∨ n = 61 ∨ n = 69 ∨ n = 77)) : knownB n = false := by
  rw [← Bool.not_eq_true]
  simp only [knownB, codesL, List.contains_iff_mem, List.mem_cons, List.not_mem_nil, or_false]
  exact h
theorem mem_known {n : Nat} (h : n ∈ codesL) : knownB n = true := by simpa [knownB] using h
theorem not_known {n : Nat} (h : ¬ n ∈ codesL) : knownB n = false := by simpa [knownB] using h

/-- An instruction. -/
structure Ins where
  c : Nat
  t : Nat
  f : Nat
  k : Nat
def Ins.ok (i : Ins) : Prop := i.c < 65536 ∧ i.t < 256 ∧ i.f < 256 ∧ i.k < 4294967296
def Ins.bs (i : Ins) : List Nat := [i.c % 256, i.c / 256, i.t, i.f, i.k % 256, i.k / 256 % 256, i.k / 65536 % 256, i.k / 16777216]
/-- The instruction whose bytes stand at 8 j. -/
def insAt (b : List Nat) (j : Nat) : Ins := ⟨b.getD (j * 8) 0 + 256 * b.getD (j * 8 + 1) 0, b.getD (j * 8 + 2) 0, b.getD (j * 8 + 3) 0, b.getD (j * 8 + 4) 0 + 256 * b.getD (j * 8 + 5) 0 + 65536 * b.getD (j * 8 + 6) 0 + 16777216 * b.getD (j * 8 + 7) 0⟩
def dec (b : List Nat) (m : Nat) : List Ins := (List.range m).map (insAt b)
def enc8 (l : List Ins) : List Nat := l.flatMap Ins.bs
theorem bs_len (i : Ins) : i.bs.length = 8 := rfl
theorem enc_len (l : List Ins) : (enc8 l).length = l.length * 8 := by
  induction l with
  | nil => rfl
  | cons i l ih => simp only [enc8, List.flatMap_cons, List.length_append, bs_len, List.length_cons] at *; omega
theorem enc_at : ∀ (l : List Ins) (k j : Nat), j < 8 → (enc8 l)[k * 8 + j]? = (l[k]?).bind (fun x => x.bs[j]?)
  | [], k, j, _ => by simp [enc8]
  | x :: l, k, j, hj => by
    have e : enc8 (x :: l) = x.bs ++ enc8 l := rfl
    rw [e]
    cases k with
    | zero => rw [List.getElem?_append_left (by rw [bs_len]; omega)]; simp
    | succ k =>
      rw [List.getElem?_append_right (by rw [bs_len]; omega), bs_len, show (k + 1) * 8 + j - 8 = k * 8 + j from by omega, enc_at l k j hj]
      simp
theorem enc_snoc (l : List Ins) (i : Ins) : enc8 (l ++ [i]) = enc8 l ++ i.bs := by simp [enc8]
theorem dec_len (b : List Nat) (m : Nat) : (dec b m).length = m := by simp [dec]
theorem dec_snoc (b : List Nat) (m : Nat) : dec b (m + 1) = dec b m ++ [insAt b m] := by simp [dec, List.range_succ]
theorem bs_lt (i : Ins) (h : i.ok) : ∀ x ∈ i.bs, x < 256 := by
  obtain ⟨h1, h2, h3, h4⟩ := h
  intro x hx
  simp only [Ins.bs, List.mem_cons, List.not_mem_nil, or_false] at hx
  omega
theorem enc_lt (l : List Ins) (h : ∀ i ∈ l, i.ok) : ∀ x ∈ enc8 l, x < 256 := by
  intro x hx
  obtain ⟨i, hi, hx⟩ := List.mem_flatMap.1 hx
  exact bs_lt i (h i hi) x hx
theorem getD_lt (b : List Nat) (h : ∀ x ∈ b, x < 256) (j : Nat) : b.getD j 0 < 256 := by
  rw [List.getD_eq_getElem?_getD]
  by_cases hj : j < b.length
  · rw [List.getElem?_eq_getElem hj]; exact h _ (List.getElem_mem hj)
  · rw [List.getElem?_eq_none (by omega)]; decide
theorem insAt_ok (b : List Nat) (h : ∀ x ∈ b, x < 256) (j : Nat) : (insAt b j).ok := by
  have a0 := getD_lt b h (j * 8)
  have a1 := getD_lt b h (j * 8 + 1)
  have a2 := getD_lt b h (j * 8 + 2)
  have a3 := getD_lt b h (j * 8 + 3)
  have a4 := getD_lt b h (j * 8 + 4)
  have a5 := getD_lt b h (j * 8 + 5)
  have a6 := getD_lt b h (j * 8 + 6)
  have a7 := getD_lt b h (j * 8 + 7)
  simp only [Ins.ok, insAt]
  omega
/-- What was encoded is decoded. -/
theorem insAt_enc (l : List Ins) (h : ∀ i ∈ l, i.ok) (j : Nat) (x : Ins) (hx : l[j]? = some x) : insAt (enc8 l) j = x := by
  have hok := h x (List.mem_of_getElem? hx)
  have hat : ∀ i, i < 8 → (enc8 l).getD (j * 8 + i) 0 = x.bs.getD i 0 := by
    intro i hi
    rw [List.getD_eq_getElem?_getD, enc_at l j i hi, hx, List.getD_eq_getElem?_getD]; rfl
  have h0 := hat 0 (by omega)
  rw [Nat.add_zero] at h0
  obtain ⟨h1, h2, h3, h4⟩ := hok
  cases x with
  | mk c t f k =>
    simp only [insAt, h0, hat 1 (by omega), hat 2 (by omega), hat 3 (by omega), hat 4 (by omega), hat 5 (by omega), hat 6 (by omega), hat 7 (by omega)]
    simp only [Ins.bs] at *
    simp only [List.getD_cons_zero, List.getD_cons_succ, Ins.mk.injEq, true_and]
    omega
theorem dec_enc (l : List Ins) (h : ∀ i ∈ l, i.ok) : dec (enc8 l) l.length = l := by
  apply List.ext_getElem?
  intro j
  by_cases hj : j < l.length
  · rw [List.getElem?_eq_getElem hj, dec, List.getElem?_map, List.getElem?_range hj]
    simp only [Option.map_some, Option.some.injEq]
    exact insAt_enc l h j _ (List.getElem?_eq_getElem hj)
  · rw [List.getElem?_eq_none (by rw [dec_len]; omega), List.getElem?_eq_none (by omega)]
theorem bs_insAt (b : List Nat) (h : ∀ x ∈ b, x < 256) (j i : Nat) (hi : i < 8) : (insAt b j).bs[i]? = some (b.getD (j * 8 + i) 0) := by
  have a0 := getD_lt b h (j * 8)
  have a1 := getD_lt b h (j * 8 + 1)
  have a4 := getD_lt b h (j * 8 + 4)
  have a5 := getD_lt b h (j * 8 + 5)
  have a6 := getD_lt b h (j * 8 + 6)
  have a7 := getD_lt b h (j * 8 + 7)
  rcases (by omega : i = 0 ∨ i = 1 ∨ i = 2 ∨ i = 3 ∨ i = 4 ∨ i = 5 ∨ i = 6 ∨ i = 7) with rfl | rfl | rfl | rfl | rfl | rfl | rfl | rfl <;>
    simp only [Ins.bs, insAt, List.getElem?_cons_zero, List.getElem?_cons_succ, Option.some.injEq, Nat.add_zero] <;> omega
/-- What was decoded is encoded. -/
theorem enc_dec (b : List Nat) (m : Nat) (hb : b.length = m * 8) (h : ∀ x ∈ b, x < 256) : enc8 (dec b m) = b := by
  apply List.ext_getElem?
  intro q
  have hq : q = q / 8 * 8 + q % 8 := by omega
  rw [hq, enc_at _ _ _ (by omega)]
  by_cases hj : q / 8 < m
  · rw [dec, List.getElem?_map, List.getElem?_range hj]
    simp only [Option.map_some, Option.bind_some]
    rw [bs_insAt b h _ _ (by omega), List.getD_eq_getElem?_getD, List.getElem?_eq_getElem (by omega)]
    rfl
  · rw [List.getElem?_eq_none (by rw [dec_len]; omega), List.getElem?_eq_none (by omega)]
    rfl
end Go.Proofs.YtonpakndocgndaaGreatDoor


