/- Ways through a filter, as plain lists: where an instruction goes on; what is stored on each way; what is reached; the longest way; what is left when the rest goes. -/
import Derived.Test.YtcageojoafkojaaGa
namespace Go.Proofs.Ytcageojoafkojaa

/-- How far beyond the next one its ways go. -/
def rel (i : Ins) : List Nat := if i.c % 8 = 6 then [] else if i.c % 8 ≠ 5 then [0] else if i.c = 5 then [i.k] else [i.t, i.f]
def ways (i : Ins) (a : Nat) : List Nat := (rel i).map fun d => a + 1 + d
def takes (i : Ins) : Bool := i.c == 96 || i.c == 97
def puts (i : Ins) : Bool := i.c == 2 || i.c == 3
def takenN (i : Ins) : Nat := if takes i = true then 2 ^ i.k else 0
def putN (i : Ins) : Nat := if puts i = true then 2 ^ i.k else 0
def rangeB (i : Ins) : Bool :=
  if i.c = 32 then i.k % 4 == 0 && decide (i.k ≤ 60)
  else if i.c = 96 ∨ i.c = 97 ∨ i.c = 2 ∨ i.c = 3 then decide (i.k < 16)
  else if i.c = 52 then i.k != 0
  else if i.c = 100 ∨ i.c = 116 then decide (i.k < 32) else true
def jumpB (i : Ins) (left : Nat) : Bool := i.c % 8 != 5 || (rel i).all (fun d => decide (d < left))
/-- What is wrong with an instruction behind which so many stand; 0: nothing. -/
def alone (i : Ins) (left : Nat) : Nat := if knownB i.c = false then 208 else if jumpB i left = false then 207 else if rangeB i = false then 204 else 0
/-- A way to a place on which a scratch number isn't stored. -/
inductive Un (l : List Ins) (b : Nat) : Nat → Prop
  | zero : Un l b 0
  | step {j : Nat} {i : Ins} {to : Nat} : Un l b j → l[j]? = some i → ¬ (puts i = true ∧ i.k = b) → to ∈ ways i j → Un l b to
/-- A way to a place. -/
inductive Reach (l : List Ins) : Nat → Prop
  | zero : Reach l 0
  | step {j : Nat} {i : Ins} {to : Nat} : Reach l j → l[j]? = some i → to ∈ ways i j → Reach l to
/-- It may be loaded. -/
structure Good (l : List Ins) : Prop where
  pos : 0 < l.length
  many : l.length ≤ 4096
  each : ∀ (a : Nat) (i : Ins), l[a]? = some i → alone i (l.length - a - 1) = 0
  ends : ∀ (i : Ins), l[l.length - 1]? = some i → i.c % 8 = 6
  scr : ∀ (a : Nat) (i : Ins), l[a]? = some i → takes i = true → ¬ Un l i.k a
/-- What is wrong first, and where. -/
inductive Chk (l : List Ins) : Nat → Nat → Prop
  | none : l.length = 0 → Chk l 0 203
  | many : 4096 < l.length → Chk l 4096 205
  | each (a : Nat) (i : Ins) (e : Nat) : 0 < l.length → l.length ≤ 4096 → (∀ (j : Nat) (x : Ins), j < a → l[j]? = some x → alone x (l.length - j - 1) = 0) → l[a]? = some i → alone i (l.length - a - 1) = e → e ≠ 0 → Chk l a e
  | ends (i : Ins) : 0 < l.length → l.length ≤ 4096 → (∀ (j : Nat) (x : Ins), l[j]? = some x → alone x (l.length - j - 1) = 0) → l[l.length - 1]? = some i → i.c % 8 ≠ 6 → Chk l (l.length - 1) 209
  | scr (a : Nat) (i : Ins) : 0 < l.length → l.length ≤ 4096 → (∀ (j : Nat) (x : Ins), l[j]? = some x → alone x (l.length - j - 1) = 0) → (∀ (x : Ins), l[l.length - 1]? = some x → x.c % 8 = 6) →
      (∀ (j : Nat) (x : Ins), j < a → l[j]? = some x → takes x = true → ¬ Un l x.k j) → l[a]? = some i → takes i = true → Un l i.k a → Chk l a 2
  | good : Good l → Chk l 0 0
theorem Chk.good_iff {l : List Ins} {a e : Nat} (h : Chk l a e) : e = 0 ↔ Good l := by
  cases h with
  | none h1 => exact ⟨fun h => by omega, fun g => by have := g.pos; omega⟩
  | many h1 => exact ⟨fun h => by omega, fun g => by have := g.many; omega⟩
  | each _ i _ h0 h1 h2 h3 h4 h5 => exact ⟨fun h => absurd h h5, fun g => by rw [← h4]; exact g.each _ _ h3⟩
  | ends i h0 h1 h2 h3 h4 => exact ⟨fun h => by omega, fun g => absurd (g.ends _ h3) h4⟩
  | scr _ i h0 h1 h2 h3 h4 h5 h6 h7 => exact ⟨fun h => by omega, fun g => absurd h7 (g.scr _ _ h5 h6)⟩
  | good g => exact ⟨fun _ => g, fun _ => rfl⟩
theorem Chk.zero {l : List Ins} {a : Nat} (h : Chk l a 0) : a = 0 := by
  cases h with
  | each _ i _ h0 h1 h2 h3 h4 h5 => exact absurd rfl h5
  | good g => rfl
theorem alone_lt (i : Ins) (n : Nat) : alone i n < 300 := by
  unfold alone
  split
  · omega
  · split
    · omega
    · split <;> omega
theorem alone_zero {i : Ins} {n : Nat} : alone i n = 0 ↔ knownB i.c = true ∧ jumpB i n = true ∧ rangeB i = true := by
  unfold alone
  by_cases h1 : knownB i.c = false
  · simp [h1]
  · by_cases h2 : jumpB i n = false
    · simp [h1, h2]
    · by_cases h3 : rangeB i = false
      · simp [h1, h2, h3]
      · simp only [Bool.not_eq_false] at h1 h2 h3
        simp [h1, h2, h3]
theorem Chk.lt {l : List Ins} {a e : Nat} (h : Chk l a e) : a ≤ 4096 ∧ e < 300 := by
  cases h with
  | none h1 => omega
  | many h1 => omega
  | each _ i _ h0 h1 h2 h3 h4 h5 =>
    have := (List.getElem?_eq_some_iff.1 h3).1
    have := alone_lt i (l.length - a - 1)
    omega
  | ends i h0 h1 h2 h3 h4 => omega
  | scr _ i h0 h1 h2 h3 h4 h5 h6 h7 =>
    have := (List.getElem?_eq_some_iff.1 h5).1
    omega
  | good g => omega
/-- Ways go forward. -/
theorem ways_gt {i : Ins} {a to : Nat} (h : to ∈ ways i a) : a < to := by
  obtain ⟨d, _, rfl⟩ := List.mem_map.1 h
  omega
theorem jump_in {i : Ins} {n d : Nat} (hj : jumpB i n = true) (h5 : i.c % 8 = 5) (hd : d ∈ rel i) : d < n := by
  unfold jumpB at hj
  simp only [h5, bne_self_eq_false, Bool.false_or, List.all_eq_true, decide_eq_true_eq] at hj
  exact hj d hd
/-- Each way of each ends at one of them. -/
def Inr (l : List Ins) : Prop := ∀ (a : Nat) (i : Ins), l[a]? = some i → ∀ to ∈ ways i a, to < l.length
theorem inr_of {l : List Ins} (h1 : ∀ (j : Nat) (x : Ins), l[j]? = some x → alone x (l.length - j - 1) = 0) (h2 : ∀ (x : Ins), l[l.length - 1]? = some x → x.c % 8 = 6) : Inr l := by
  intro a i hi to hto
  have ha := (List.getElem?_eq_some_iff.1 hi).1
  obtain ⟨d, hd, rfl⟩ := List.mem_map.1 hto
  by_cases h5 : i.c % 8 = 5
  · have := jump_in (alone_zero.1 (h1 a i hi)).2.1 h5 hd
    omega
  · by_cases h6 : i.c % 8 = 6
    · simp [rel, h6] at hd
    · have h0 : d = 0 := by simpa [rel, h5, h6] using hd
      have : a ≠ l.length - 1 := fun e => h6 (h2 i (e ▸ hi))
      omega
theorem Good.inr {l : List Ins} (g : Good l) : Inr l := inr_of g.each g.ends
/-! What is stored. -/
theorem getD_set {α : Type} (l : List α) (k j : Nat) (v d : α) : (l.set k v).getD j d = if j = k ∧ k < l.length then v else l.getD j d := by
  rw [List.getD_eq_getElem?_getD, List.getD_eq_getElem?_getD, List.getElem?_set]
  by_cases h : k = j
  · subst h
    by_cases h2 : k < l.length
    · simp [h2]
    · simp [h2]
  · rw [if_neg h, if_neg (fun e => h e.1.symm)]
def upd (st : List Nat) (v : Nat) (tos : List Nat) : List Nat := tos.foldl (fun s to => s.set to (s.getD to 0 &&& v)) st
theorem upd_len (st : List Nat) (v : Nat) (tos : List Nat) : (upd st v tos).length = st.length := by
  unfold upd
  induction tos generalizing st with
  | nil => rfl
  | cons x t ih => rw [List.foldl_cons, ih, List.length_set]
theorem upd_get (st : List Nat) (v : Nat) (tos : List Nat) (j : Nat) : (upd st v tos).getD j 0 = if j ∈ tos then st.getD j 0 &&& v else st.getD j 0 := by
  induction tos generalizing st with
  | nil => simp [upd]
  | cons x t ih =>
    have e : upd st v (x :: t) = upd (st.set x (st.getD x 0 &&& v)) v t := rfl
    have e2 : (st.set x (st.getD x 0 &&& v)).getD j 0 = if j = x then st.getD j 0 &&& v else st.getD j 0 := by
      rw [getD_set]
      by_cases hjx : j = x
      · subst hjx
        by_cases hl : j < st.length
        · simp [hl]
        · have : st.getD j 0 = 0 := by rw [List.getD_eq_getElem?_getD, List.getElem?_eq_none (by omega)]; rfl
          simp [hl]
      · simp [hjx]
    rw [e, ih, e2]
    by_cases h1 : j ∈ t <;> by_cases h2 : j = x <;> simp [h1, h2, Nat.and_assoc]
def stf (l : List Ins) : Nat → List Nat
  | 0 => (List.replicate l.length 65535).set 0 0
  | k + 1 => match l[k]? with
    | none => stf l k
    | some i => upd (stf l k) ((stf l k).getD k 0 ||| putN i) (ways i k)
theorem stf_len (l : List Ins) (k : Nat) : (stf l k).length = l.length := by
  induction k with
  | zero => simp [stf]
  | succ k ih =>
    unfold stf
    split
    · exact ih
    · rw [upd_len]; exact ih
theorem stf_step {l : List Ins} {k : Nat} {i : Ins} (h : l[k]? = some i) : stf l (k + 1) = upd (stf l k) ((stf l k).getD k 0 ||| putN i) (ways i k) := by
  rw [stf, h]
def UnB (l : List Ins) (b k j : Nat) : Prop := j = 0 ∨ ∃ m i, m < k ∧ Un l b m ∧ l[m]? = some i ∧ ¬ (puts i = true ∧ i.k = b) ∧ j ∈ ways i m
theorem unB_iff {l : List Ins} {b k : Nat} : UnB l b k k ↔ Un l b k := by
  constructor
  · rintro (rfl | ⟨m, i, _, h1, h2, h3, h4⟩)
    · exact .zero
    · exact .step h1 h2 h3 h4
  · intro h
    cases h with
    | zero => exact .inl rfl
    | step h1 h2 h3 h4 => exact .inr ⟨_, _, ways_gt h4, h1, h2, h3, h4⟩
theorem put_bit (i : Ins) (b : Nat) : (putN i).testBit b = true ↔ (puts i = true ∧ i.k = b) := by
  unfold putN
  by_cases h : puts i = true
  · rw [if_pos h, Nat.testBit_two_pow]; simp [h]
  · rw [if_neg h]; simp [h]
theorem stf_spec (l : List Ins) (b : Nat) (hb : b < 16) : ∀ (k : Nat), k ≤ l.length → ∀ j, j < l.length → (((stf l k).getD j 0).testBit b = true ↔ ¬ UnB l b k j)
  | 0, _, j, hj => by
    have e : (stf l 0).getD j 0 = if j = 0 then 0 else 65535 := by
      rw [stf, getD_set]
      by_cases h : j = 0
      · subst h; simp [hj]
      · simp [h, List.getD_eq_getElem?_getD, hj]
    rw [e]
    by_cases h : j = 0
    · simp [h, UnB]
    · have : Nat.testBit 65535 b = true := by
        rw [show 65535 = 2 ^ 16 - 1 from rfl, Nat.testBit_two_pow_sub_one]; simpa using hb
      simp [h, this, UnB]
  | k + 1, hk, j, hj => by
    obtain ⟨i, hi⟩ : ∃ i, l[k]? = some i := ⟨_, List.getElem?_eq_getElem (by omega)⟩
    have ih := stf_spec l b hb k (by omega)
    rw [stf_step hi, upd_get]
    have hu : UnB l b (k + 1) j ↔ UnB l b k j ∨ (Un l b k ∧ ¬ (puts i = true ∧ i.k = b) ∧ j ∈ ways i k) := by
      constructor
      · rintro (h | ⟨m, x, h0, h1, h2, h3, h4⟩)
        · exact .inl (.inl h)
        · rcases (by omega : m < k ∨ m = k) with h5 | rfl
          · exact .inl (.inr ⟨m, x, h5, h1, h2, h3, h4⟩)
          · rw [hi] at h2
            cases h2
            exact .inr ⟨h1, h3, h4⟩
      · rintro ((h | ⟨m, x, h0, h1, h2, h3, h4⟩) | ⟨h1, h3, h4⟩)
        · exact .inl h
        · exact .inr ⟨m, x, by omega, h1, h2, h3, h4⟩
        · exact .inr ⟨k, i, by omega, h1, hi, h3, h4⟩
    rw [hu]
    by_cases hw : j ∈ ways i k
    · rw [if_pos hw, Nat.testBit_and, Nat.testBit_or, Bool.and_eq_true, Bool.or_eq_true, ih j hj, ih k (by omega), put_bit, unB_iff]
      constructor
      · rintro ⟨h1, h2⟩ (h3 | ⟨h3, h4, _⟩)
        · exact h1 h3
        · rcases h2 with h2 | h2
          · exact h2 h3
          · exact h4 h2
      · intro h
        refine ⟨fun h1 => h (.inl h1), ?_⟩
        by_cases h1 : Un l b k
        · right
          by_cases h2 : puts i = true ∧ i.k = b
          · exact h2
          · exact absurd (.inr ⟨h1, h2, hw⟩) h
        · exact .inl h1
    · rw [if_neg hw, ih j hj]
      constructor
      · rintro h1 (h2 | ⟨_, _, h2⟩)
        · exact h1 h2
        · exact hw h2
      · exact fun h h1 => h (.inl h1)
theorem stf_lt (l : List Ins) (hok : ∀ i ∈ l, rangeB i = true) : ∀ k j, (stf l k).getD j 0 < 65536
  | 0, j => by
    rw [stf, getD_set]
    split
    · omega
    · rw [List.getD_eq_getElem?_getD, List.getElem?_replicate]
      split <;> simp
  | k + 1, j => by
    unfold stf
    split
    · exact stf_lt l hok k j
    · rename_i i hi
      rw [upd_get]
      split
      · exact Nat.lt_of_le_of_lt Nat.and_le_left (stf_lt l hok k j)
      · exact stf_lt l hok k j
theorem scratch_lt {i : Ins} (h : rangeB i = true) (h2 : i.c = 96 ∨ i.c = 97 ∨ i.c = 2 ∨ i.c = 3) : i.k < 16 := by
  unfold rangeB at h
  rw [if_neg (by omega), if_pos h2] at h
  simpa using h
theorem takes_lt {i : Ins} (h : rangeB i = true) (h2 : takes i = true) : i.k < 16 := by
  simp only [takes, Bool.or_eq_true, beq_iff_eq] at h2
  exact scratch_lt h (by omega)
theorem puts_lt {i : Ins} (h : rangeB i = true) (h2 : puts i = true) : i.k < 16 := by
  simp only [puts, Bool.or_eq_true, beq_iff_eq] at h2
  exact scratch_lt h (by omega)
theorem putN_lt {i : Ins} (h : rangeB i = true) : putN i < 65536 := by
  unfold putN
  split
  · rename_i h2
    have := Nat.pow_lt_pow_right (a := 2) (by omega) (puts_lt h h2)
    omega
  · omega
theorem takenN_lt {i : Ins} (h : rangeB i = true) : takenN i < 65536 := by
  unfold takenN
  split
  · rename_i h2
    have := Nat.pow_lt_pow_right (a := 2) (by omega) (takes_lt h h2)
    omega
  · omega
/-- Is what it loads stored? -/
theorem stf_bad {l : List Ins} {k : Nat} {i : Ins} (hi : l[k]? = some i) (hr : rangeB i = true) : (∀ b, (takenN i).testBit b = true → ((stf l k).getD k 0).testBit b = true) ↔ (takes i = true → ¬ Un l i.k k) := by
  have hk := (List.getElem?_eq_some_iff.1 hi).1
  unfold takenN
  by_cases ht : takes i = true
  · have h16 := takes_lt hr ht
    rw [if_pos ht]
    constructor
    · intro h _ hu
      have := h i.k (by rw [Nat.testBit_two_pow]; simp)
      rw [stf_spec l i.k h16 k (by omega) k hk, unB_iff] at this
      exact this hu
    · intro h b hb
      rw [Nat.testBit_two_pow] at hb
      obtain rfl : i.k = b := by simpa using hb
      rw [stf_spec l i.k h16 k (by omega) k hk, unB_iff]
      exact h ht
  · simp [ht]
/-! What is reached. -/
def setAllW (rs : List Bool) (tos : List Nat) : List Bool := tos.foldl (fun s to => s.set to true) rs
theorem setAll_len (rs : List Bool) (tos : List Nat) : (setAllW rs tos).length = rs.length := by
  unfold setAllW
  induction tos generalizing rs with
  | nil => rfl
  | cons x t ih => rw [List.foldl_cons, ih, List.length_set]
theorem setAll_get (rs : List Bool) (tos : List Nat) (j : Nat) (hj : j < rs.length) : (setAllW rs tos).getD j false = true ↔ rs.getD j false = true ∨ j ∈ tos := by
  induction tos generalizing rs with
  | nil => simp [setAllW]
  | cons x t ih =>
    have e : setAllW rs (x :: t) = setAllW (rs.set x true) t := rfl
    rw [e, ih _ (by simpa using hj), getD_set]
    by_cases h : j = x
    · subst h; simp [hj]
    · simp [h]
def rcf (l : List Ins) : Nat → List Bool
  | 0 => (List.replicate l.length false).set 0 true
  | k + 1 => match l[k]? with
    | none => rcf l k
    | some i => if (rcf l k).getD k false = true then setAllW (rcf l k) (ways i k) else rcf l k
theorem rcf_len (l : List Ins) (k : Nat) : (rcf l k).length = l.length := by
  induction k with
  | zero => simp [rcf]
  | succ k ih =>
    unfold rcf
    split
    · exact ih
    · split
      · rw [setAll_len]; exact ih
      · exact ih
theorem rcf_step {l : List Ins} {k : Nat} {i : Ins} (h : l[k]? = some i) : rcf l (k + 1) = if (rcf l k).getD k false = true then setAllW (rcf l k) (ways i k) else rcf l k := by
  rw [rcf, h]
def ReB (l : List Ins) (k j : Nat) : Prop := j = 0 ∨ ∃ m i, m < k ∧ Reach l m ∧ l[m]? = some i ∧ j ∈ ways i m
theorem reB_iff {l : List Ins} {k j : Nat} (h : j ≤ k) : ReB l k j ↔ Reach l j := by
  constructor
  · rintro (rfl | ⟨m, i, _, h1, h2, h4⟩)
    · exact .zero
    · exact .step h1 h2 h4
  · intro h0
    cases h0 with
    | zero => exact .inl rfl
    | step h1 h2 h4 => exact .inr ⟨_, _, Nat.lt_of_lt_of_le (ways_gt h4) h, h1, h2, h4⟩
theorem rcf_spec (l : List Ins) : ∀ (k : Nat), k ≤ l.length → ∀ j, j < l.length → ((rcf l k).getD j false = true ↔ ReB l k j)
  | 0, _, j, hj => by
    rw [rcf, getD_set]
    by_cases h : j = 0
    · subst h; simp [hj, ReB]
    · simp [h, ReB, List.getD_eq_getElem?_getD, hj]
  | k + 1, hk, j, hj => by
    obtain ⟨i, hi⟩ : ∃ i, l[k]? = some i := ⟨_, List.getElem?_eq_getElem (by omega)⟩
    have ih := rcf_spec l k (by omega)
    rw [rcf_step hi]
    have hu : ReB l (k + 1) j ↔ ReB l k j ∨ (Reach l k ∧ j ∈ ways i k) := by
      constructor
      · rintro (h | ⟨m, x, h0, h1, h2, h4⟩)
        · exact .inl (.inl h)
        · rcases (by omega : m < k ∨ m = k) with h5 | rfl
          · exact .inl (.inr ⟨m, x, h5, h1, h2, h4⟩)
          · rw [hi] at h2
            cases h2
            exact .inr ⟨h1, h4⟩
      · rintro ((h | ⟨m, x, h0, h1, h2, h4⟩) | ⟨h1, h4⟩)
        · exact .inl h
        · exact .inr ⟨m, x, by omega, h1, h2, h4⟩
        · exact .inr ⟨k, i, by omega, h1, hi, h4⟩
    rw [hu]
    have hkk := ih k (by omega)
    rw [reB_iff (Nat.le_refl k)] at hkk
    by_cases hr : (rcf l k).getD k false = true
    · rw [if_pos hr, setAll_get _ _ _ (by rw [rcf_len]; exact hj), ih j hj]
      have := hkk.1 hr
      simp [this]
    · rw [if_neg hr, ih j hj]
      have : ¬ Reach l k := fun h => hr (hkk.2 h)
      simp [this]
/-- To which instructions a way goes. -/
def rc (l : List Ins) : List Bool := rcf l l.length
theorem rc_len (l : List Ins) : (rc l).length = l.length := rcf_len _ _
theorem rc_iff {l : List Ins} {j : Nat} (h : j < l.length) : (rc l).getD j false = true ↔ Reach l j := by
  unfold rc
  rw [rcf_spec l _ (Nat.le_refl _) j h, reB_iff (by omega)]
/-! The longest way. -/
def maxl (l : List Nat) : Nat := l.foldr max 0
def lgl : List Ins → List Nat
  | [] => []
  | i :: l => (maxl ((rel i).map fun d => (lgl l).getD d 0) + 1) :: lgl l
theorem lgl_len (l : List Ins) : (lgl l).length = l.length := by
  induction l with
  | nil => rfl
  | cons i l ih => simp [lgl, ih]
theorem lgl_drop : ∀ (l : List Ins) (a : Nat), (lgl l).drop a = lgl (l.drop a)
  | [], a => by simp [lgl]
  | i :: l, 0 => rfl
  | i :: l, a + 1 => by rw [List.drop_succ_cons, ← lgl_drop l a]; rfl
def lg (l : List Ins) (a : Nat) : Nat := (lgl l).getD a 0
theorem lg_step {l : List Ins} {a : Nat} {i : Ins} (h : l[a]? = some i) : lg l a = maxl ((ways i a).map (lg l)) + 1 := by
  have e : l.drop a = i :: l.drop (a + 1) := by
    obtain ⟨h1, h2⟩ := List.getElem?_eq_some_iff.1 h
    rw [← h2]; exact List.drop_eq_getElem_cons h1
  have h0 : ∀ d, (lgl l).getD (a + d) 0 = (lgl (l.drop a)).getD d 0 := fun d => by
    rw [← lgl_drop, List.getD_eq_getElem?_getD, List.getD_eq_getElem?_getD, List.getElem?_drop]
  have h1 : lg l a = (lgl (l.drop a)).getD 0 0 := h0 0
  rw [h1, e, lgl]
  show maxl _ + 1 = _
  congr 2
  unfold ways
  rw [List.map_map]
  refine List.map_congr_left fun d _ => ?_
  have := h0 (1 + d)
  rw [e, lgl, Nat.add_comm 1 d, List.getD_cons_succ, Nat.add_comm d 1, ← Nat.add_assoc] at this
  exact this.symm
theorem maxl_le {l : List Nat} {n : Nat} (h : ∀ x ∈ l, x ≤ n) : maxl l ≤ n := by
  induction l with
  | nil => exact Nat.zero_le _
  | cons x l ih =>
    show max x (maxl l) ≤ n
    have := ih fun y hy => h y (List.mem_cons_of_mem _ hy)
    have := h x List.mem_cons_self
    omega
theorem lgl_le : ∀ (l : List Ins), ∀ x ∈ lgl l, x ≤ l.length
  | [] => by simp [lgl]
  | i :: l => by
    intro x hx
    have ih := lgl_le l
    rw [lgl] at hx
    rcases List.mem_cons.1 hx with rfl | hx
    · have : maxl ((rel i).map fun d => (lgl l).getD d 0) ≤ l.length := maxl_le fun y hy => by
        obtain ⟨d, _, rfl⟩ := List.mem_map.1 hy
        rw [List.getD_eq_getElem?_getD]
        rcases h : (lgl l)[d]? with _ | v
        · simp
        · exact ih v (List.mem_of_getElem? h)
      simp only [List.length_cons]; omega
    · have := ih x hx
      simp only [List.length_cons]; omega
theorem lg_le (l : List Ins) (a : Nat) : lg l a ≤ l.length := by
  unfold lg
  rw [List.getD_eq_getElem?_getD]
  rcases h : (lgl l)[a]? with _ | v
  · simp
  · exact lgl_le l v (List.mem_of_getElem? h)
end Go.Proofs.Ytcageojoafkojaa
namespace Go.Proofs.Ytcageojoafkojaa
/-- How many ahead of a place. -/
def cnt (R : Nat → Bool) : Nat → Nat
  | 0 => 0
  | k + 1 => if R k = true then cnt R k + 1 else cnt R k
/-- What stands at those places. -/
def pick {α : Type} (R : Nat → Bool) (g : Nat → α) : Nat → List α
  | 0 => []
  | k + 1 => if R k = true then pick R g k ++ [g k] else pick R g k
section
variable {R : Nat → Bool} {α : Type} {g : Nat → α}
theorem cnt_yes {k : Nat} (h : R k = true) : cnt R (k + 1) = cnt R k + 1 := by rw [cnt, if_pos h]
theorem cnt_no {k : Nat} (h : R k = false) : cnt R (k + 1) = cnt R k := by rw [cnt, if_neg (by simp [h])]
theorem pick_yes {k : Nat} (h : R k = true) : pick R g (k + 1) = pick R g k ++ [g k] := by rw [pick, if_pos h]
theorem pick_no {k : Nat} (h : R k = false) : pick R g (k + 1) = pick R g k := by rw [pick, if_neg (by simp [h])]
theorem pick_len (k : Nat) : (pick R g k).length = cnt R k := by
  induction k with
  | zero => rfl
  | succ k ih =>
    cases h : R k with
    | true => rw [pick_yes h, cnt_yes h, List.length_append, ih]; rfl
    | false => rw [pick_no h, cnt_no h, ih]
theorem cnt_step (k : Nat) : cnt R k ≤ cnt R (k + 1) ∧ cnt R (k + 1) ≤ cnt R k + 1 := by
  cases h : R k with
  | true => rw [cnt_yes h]; omega
  | false => rw [cnt_no h]; omega
theorem cnt_mono {j k : Nat} (h : j ≤ k) : cnt R j ≤ cnt R k := by
  induction k with
  | zero => rw [Nat.le_zero.1 h]; exact Nat.le_refl _
  | succ k ih =>
    rcases (by omega : j ≤ k ∨ j = k + 1) with h1 | rfl
    · exact Nat.le_trans (ih h1) (cnt_step k).1
    · exact Nat.le_refl _
theorem cnt_far (j d : Nat) : cnt R (j + d) ≤ cnt R j + d := by
  induction d with
  | zero => exact Nat.le_refl _
  | succ d ih => have := (cnt_step (R := R) (j + d)).2; rw [← Nat.add_assoc]; omega
theorem cnt_le (k : Nat) : cnt R k ≤ k := by have := cnt_far (R := R) 0 k; simpa [cnt] using this
theorem cnt_lt {j k : Nat} (h : R j = true) (hk : j < k) : cnt R j < cnt R k := by
  have := cnt_mono (R := R) (show j + 1 ≤ k from hk)
  rw [cnt_yes h] at this; omega
theorem cnt_inj {j k : Nat} (hj : R j = true) (hk : R k = true) (h : cnt R j = cnt R k) : j = k := by
  rcases Nat.lt_trichotomy j k with h1 | h1 | h1
  · have := cnt_lt hj h1; omega
  · exact h1
  · have := cnt_lt hk h1; omega
theorem pick_at : ∀ (n j : Nat), j < n → R j = true → (pick R g n)[cnt R j]? = some (g j)
  | n + 1, j, hj, h => by
    rcases (by omega : j < n ∨ j = n) with h1 | rfl
    · have ih := pick_at n j h1 h
      cases hn : R n with
      | true => rw [pick_yes hn, List.getElem?_append_left (by rw [pick_len]; exact cnt_lt h h1)]; exact ih
      | false => rw [pick_no hn]; exact ih
    · rw [pick_yes h, List.getElem?_append_right (by rw [pick_len]; exact Nat.le_refl _), pick_len, Nat.sub_self]; rfl
theorem pick_of : ∀ (n m : Nat), m < cnt R n → ∃ j, j < n ∧ R j = true ∧ cnt R j = m
  | 0, m, h => by simp [cnt] at h
  | n + 1, m, h => by
    cases hn : R n with
    | true =>
      rw [cnt_yes hn] at h
      rcases (by omega : m < cnt R n ∨ m = cnt R n) with h1 | rfl
      · obtain ⟨j, h2, h3⟩ := pick_of n m h1
        exact ⟨j, by omega, h3⟩
      · exact ⟨n, by omega, hn, rfl⟩
    | false =>
      rw [cnt_no hn] at h
      obtain ⟨j, h2, h3⟩ := pick_of n m h
      exact ⟨j, by omega, h3⟩
end
/-- An instruction with its jumps as far as what is left lies. -/
def mv (p : Nat → Nat) (i : Ins) (a : Nat) : Ins :=
  if i.c % 8 ≠ 5 then i else if i.c = 5 then ⟨i.c, i.t, i.f, p (a + 1 + i.k) - p a - 1⟩ else ⟨i.c, p (a + 1 + i.t) - p a - 1, p (a + 1 + i.f) - p a - 1, i.k⟩
def at0 (l : List Ins) (a : Nat) : Ins := l.getD a ⟨0, 0, 0, 0⟩
theorem at0_of {l : List Ins} {a : Nat} {i : Ins} (h : l[a]? = some i) : at0 l a = i := by unfold at0; rw [List.getD_eq_getElem?_getD, h]; rfl
def rb (l : List Ins) (a : Nat) : Bool := (rc l).getD a false
def stripL (l : List Ins) : List Ins := pick (rb l) (fun a => mv (cnt (rb l)) (at0 l a) a) l.length
theorem mv_c (p : Nat → Nat) (i : Ins) (a : Nat) : (mv p i a).c = i.c := by
  unfold mv
  split
  · rfl
  · split <;> rfl
theorem mv_same {p : Nat → Nat} {i : Ins} {a : Nat} (h : i.c % 8 ≠ 5) : mv p i a = i := by unfold mv; rw [if_pos h]
theorem mv_rel {p : Nat → Nat} {i : Ins} {a : Nat} (h : i.c % 8 = 5) : rel (mv p i a) = (rel i).map fun d => p (a + 1 + d) - p a - 1 := by
  unfold mv rel
  by_cases h5 : i.c = 5
  · simp [h5]
  · simp [h5, h]
theorem not_jump {c : Nat} (h : c = 32 ∨ c = 96 ∨ c = 97 ∨ c = 2 ∨ c = 3) : c % 8 ≠ 5 := by omega
theorem mv_k {p : Nat → Nat} {i : Ins} {a : Nat} (h : i.c ≠ 5) : (mv p i a).k = i.k := by
  unfold mv
  split
  · rfl
  · first | rfl | rw [if_neg h]
theorem mv_range {p : Nat → Nat} {i : Ins} {a : Nat} (h : rangeB i = true) : rangeB (mv p i a) = true := by
  by_cases h5 : i.c = 5
  · unfold rangeB
    rw [mv_c, h5]; rfl
  · unfold rangeB at *
    rw [mv_c, mv_k h5]; exact h
theorem mv_puts {p : Nat → Nat} {i : Ins} {a : Nat} : puts (mv p i a) = puts i := by unfold puts; rw [mv_c]
theorem mv_takes {p : Nat → Nat} {i : Ins} {a : Nat} : takes (mv p i a) = takes i := by unfold takes; rw [mv_c]
theorem puts_ne {i : Ins} (h : puts i = true) : i.c ≠ 5 := by intro e; simp [puts, e] at h
theorem takes_ne {i : Ins} (h : takes i = true) : i.c ≠ 5 := by intro e; simp [takes, e] at h
theorem g0 {l : List Ins} (g : Good l) : rb l 0 = true := by
  have := g.pos
  exact (rc_iff (by omega)).2 .zero
theorem rb_lt {l : List Ins} (_g : Good l) {a : Nat} (h : rb l a = true) : a < l.length := by
  have := rc_len l
  rcases Nat.lt_or_ge a l.length with h1 | h1
  · exact h1
  · unfold rb at h
    rw [List.getD_eq_getElem?_getD, List.getElem?_eq_none (by omega)] at h
    simp at h
theorem rb_way {l : List Ins} (g : Good l) {a to : Nat} {i : Ins} (h : rb l a = true) (hi : l[a]? = some i) (ht : to ∈ ways i a) : rb l to = true :=
  (rc_iff (g.inr a i hi to ht)).2 (.step ((rc_iff (rb_lt g h)).1 h) hi ht)
theorem len_strip {l : List Ins} (_g : Good l) : (stripL l).length = cnt (rb l) l.length := pick_len _
theorem strip_at {l : List Ins} (g : Good l) {a : Nat} {i : Ins} (h : rb l a = true) (hi : l[a]? = some i) : (stripL l)[cnt (rb l) a]? = some (mv (cnt (rb l)) i a) := by
  have := pick_at (g := fun a => mv (cnt (rb l)) (at0 l a) a) l.length a (rb_lt g h) h
  rw [at0_of hi] at this; exact this
/-- Each of what is left was there. -/
theorem strip_of {l : List Ins} (g : Good l) {m : Nat} {y : Ins} (h : (stripL l)[m]? = some y) : ∃ a i, rb l a = true ∧ l[a]? = some i ∧ cnt (rb l) a = m ∧ y = mv (cnt (rb l)) i a := by
  have hm := (List.getElem?_eq_some_iff.1 h).1
  rw [len_strip g] at hm
  obtain ⟨a, ha, hr, rfl⟩ := pick_of _ _ hm
  have hi : l[a]? = some l[a] := List.getElem?_eq_getElem ha
  rw [strip_at g hr hi] at h
  exact ⟨a, _, hr, hi, rfl, (Option.some.inj h).symm⟩
/-- Its ways are those of what was there. -/
theorem strip_ways {l : List Ins} (_g : Good l) {a : Nat} {i : Ins} (h : rb l a = true) (_hi : l[a]? = some i) : ways (mv (cnt (rb l)) i a) (cnt (rb l) a) = (ways i a).map (cnt (rb l)) := by
  have hc := cnt_yes h
  unfold ways
  by_cases h5 : i.c % 8 = 5
  · rw [mv_rel h5, List.map_map, List.map_map]
    refine List.map_congr_left fun d _ => ?_
    have := cnt_mono (R := rb l) (show a + 1 ≤ a + 1 + d by omega)
    simp only [Function.comp]
    omega
  · rw [mv_same h5]
    by_cases h6 : i.c % 8 = 6
    · simp [rel, h6]
    · simp [rel, h5, h6, hc]
theorem strip_good {l : List Ins} (g : Good l) : Good (stripL l) := by
  have hlen := len_strip g
  have hr0 := g0 g
  have hl := g.pos
  have hpos : 0 < (stripL l).length := by rw [hlen]; have := cnt_lt hr0 hl; omega
  refine ⟨hpos, by rw [hlen]; have := cnt_le (R := rb l) l.length; have := g.many; omega, ?_, ?_, ?_⟩
  · intro m y hy
    obtain ⟨a, i, hr, hi, rfl, rfl⟩ := strip_of g hy
    obtain ⟨h1, h2, h3⟩ := alone_zero.1 (g.each a i hi)
    refine alone_zero.2 ⟨by rw [mv_c]; exact h1, ?_, mv_range h3⟩
    unfold jumpB
    rw [mv_c]
    by_cases h5 : i.c % 8 = 5
    · simp only [h5, bne_self_eq_false, Bool.false_or, List.all_eq_true, decide_eq_true_eq]
      intro d hd
      have hw : cnt (rb l) a + 1 + d ∈ ways (mv (cnt (rb l)) i a) (cnt (rb l) a) := List.mem_map.2 ⟨d, hd, rfl⟩
      rw [strip_ways g hr hi] at hw
      obtain ⟨to, hto, he⟩ := List.mem_map.1 hw
      have := cnt_lt (rb_way g hr hi hto) (g.inr a i hi to hto)
      rw [hlen]
      omega
    · simp [h5]
  · intro y hy
    obtain ⟨a, i, hr, hi, hm, rfl⟩ := strip_of g hy
    rw [mv_c]
    refine Classical.byContradiction fun h6 => ?_
    have hex : ∃ to, to ∈ ways i a := by
      unfold ways rel
      rw [if_neg h6]
      split
      · exact ⟨_, List.mem_map.2 ⟨0, by simp, rfl⟩⟩
      · split
        · exact ⟨_, List.mem_map.2 ⟨i.k, by simp, rfl⟩⟩
        · exact ⟨_, List.mem_map.2 ⟨i.t, by simp, rfl⟩⟩
    obtain ⟨to, hto⟩ := hex
    have h1 := cnt_lt hr (ways_gt hto)
    have h2 := cnt_lt (rb_way g hr hi hto) (g.inr a i hi to hto)
    rw [hlen] at hm
    omega
  · intro m y hy ht hu
    obtain ⟨a, i, hr, hi, rfl, rfl⟩ := strip_of g hy
    rw [mv_takes] at ht
    rw [mv_k (takes_ne ht)] at hu
    have key : ∀ (b j : Nat), Un (stripL l) b j → ∀ a', rb l a' = true → cnt (rb l) a' = j → Un l b a' := by
      intro b j hu
      induction hu with
      | zero =>
        intro a' hr' ha'
        have : a' = 0 := cnt_inj hr' hr0 (by rw [ha']; rfl)
        subst this
        exact .zero
      | step h1 h2 h3 h4 ih =>
        intro a' hr' ha'
        obtain ⟨a2, i2, hr2, hi2, rfl, rfl⟩ := strip_of g h2
        have hu2 := ih a2 hr2 rfl
        rw [strip_ways g hr2 hi2] at h4
        obtain ⟨to, hto, he⟩ := List.mem_map.1 h4
        have : to = a' := cnt_inj (rb_way g hr2 hi2 hto) hr' (by rw [he, ha'])
        subst this
        refine .step hu2 hi2 (fun ⟨hp, hk⟩ => h3 ⟨by rw [mv_puts]; exact hp, ?_⟩) hto
        rw [mv_k (puts_ne hp)]; exact hk
    exact g.scr a i hi ht (key _ _ hu a hr rfl)
theorem strip_lg {l : List Ins} (g : Good l) : ∀ (d a : Nat), l.length - a ≤ d → rb l a = true → lg (stripL l) (cnt (rb l) a) = lg l a
  | 0, a, hd, hr => by have := rb_lt g hr; omega
  | d + 1, a, hd, hr => by
    have ha := rb_lt g hr
    have hi : l[a]? = some l[a] := List.getElem?_eq_getElem ha
    rw [lg_step (strip_at g hr hi), lg_step hi, strip_ways g hr hi, List.map_map]
    congr 2
    refine List.map_congr_left fun to hto => ?_
    have h1 := ways_gt hto
    exact strip_lg g d to (by omega) (rb_way g hr hi hto)
theorem strip_longest {l : List Ins} (g : Good l) : lg (stripL l) 0 = lg l 0 := by
  have := strip_lg g (l.length - 0) 0 (Nat.le_refl _) (g0 g)
  exact this
theorem strip_reach {l : List Ins} (g : Good l) : ∀ m, m < (stripL l).length → rb (stripL l) m = true := by
  have key : ∀ a, Reach l a → Reach (stripL l) (cnt (rb l) a) := by
    intro a h
    induction h with
    | zero => exact .zero
    | step h1 h2 h3 ih =>
      have hr : rb l _ = true := (rc_iff (List.getElem?_eq_some_iff.1 h2).1).2 h1
      refine .step ih (strip_at g hr h2) ?_
      rw [strip_ways g hr h2]
      exact List.mem_map.2 ⟨_, h3, rfl⟩
  intro m hm
  obtain ⟨a, ha, hr, rfl⟩ := pick_of _ _ (by rw [len_strip g] at hm; exact hm)
  exact (rc_iff hm).2 (key a ((rc_iff ha).1 hr))
theorem cnt_all {R : Nat → Bool} : ∀ (n : Nat), (∀ m, m < n → R m = true) → cnt R n = n
  | 0, _ => rfl
  | n + 1, h => by rw [cnt_yes (h n (by omega)), cnt_all n fun m hm => h m (by omega)]
theorem strip_again {l : List Ins} (g : Good l) : (stripL (stripL l)).length = (stripL l).length := by
  rw [len_strip (strip_good g), cnt_all _ (strip_reach g)]
/-! More behind. -/
def ret (k : Nat) : Ins := ⟨6, 0, 0, k⟩
theorem rel_ret (k : Nat) : rel (ret k) = [] := rfl
theorem behind_at {l : List Ins} {k a : Nat} {i : Ins} (h : (l ++ [ret k])[a]? = some i) : (a < l.length ∧ l[a]? = some i) ∨ (a = l.length ∧ i = ret k) := by
  by_cases ha : a < l.length
  · rw [List.getElem?_append_left ha] at h; exact .inl ⟨ha, h⟩
  · rw [List.getElem?_append_right (by omega)] at h
    have h0 := (List.getElem?_eq_some_iff.1 h).1
    have : a - l.length = 0 := by simpa using h0
    rw [this] at h
    exact .inr ⟨by omega, (Option.some.inj h).symm⟩
theorem behind_un {l : List Ins} {b k j : Nat} (h : Un (l ++ [ret k]) b j) : Un l b j := by
  induction h with
  | zero => exact .zero
  | step h1 h2 h3 h4 ih =>
    rcases behind_at h2 with ⟨h5, h6⟩ | ⟨_, rfl⟩
    · exact .step ih h6 h3 h4
    · simp [ways, rel_ret] at h4
theorem jump_more {i : Ins} {n m : Nat} (h : jumpB i n = true) (hm : n ≤ m) : jumpB i m = true := by
  unfold jumpB at *
  simp only [Bool.or_eq_true, List.all_eq_true, decide_eq_true_eq] at *
  rcases h with h | h
  · exact .inl h
  · exact .inr fun d hd => Nat.lt_of_lt_of_le (h d hd) hm
theorem alone_ret (k n : Nat) : alone (ret k) n = 0 := alone_zero.2 ⟨rfl, rfl, rfl⟩
theorem behind_good {l : List Ins} (g : Good l) (k : Nat) (hm : l.length < 4096) : Good (l ++ [ret k]) := by
  refine ⟨by simp, by simp; omega, ?_, ?_, ?_⟩
  · intro a i hi
    rcases behind_at hi with ⟨h5, h6⟩ | ⟨_, rfl⟩
    · obtain ⟨h1, h2, h3⟩ := alone_zero.1 (g.each a i h6)
      exact alone_zero.2 ⟨h1, jump_more h2 (by simp; omega), h3⟩
    · exact alone_ret _ _
  · intro i hi
    rcases behind_at hi with ⟨h5, h6⟩ | ⟨_, rfl⟩
    · simp at h5
    · rfl
  · intro a i hi ht hu
    rcases behind_at hi with ⟨h5, h6⟩ | ⟨_, rfl⟩
    · exact g.scr a i h6 ht (behind_un hu)
    · simp [takes, ret] at ht
theorem behind_lg {l : List Ins} (g : Good l) (k : Nat) : ∀ (d a : Nat), l.length - a ≤ d → a < l.length → lg (l ++ [ret k]) a = lg l a
  | 0, a, hd, ha => by omega
  | d + 1, a, hd, ha => by
    have hi : l[a]? = some l[a] := List.getElem?_eq_getElem ha
    have hi2 : (l ++ [ret k])[a]? = some l[a] := by rw [List.getElem?_append_left ha]; exact hi
    rw [lg_step hi2, lg_step hi]
    congr 2
    refine List.map_congr_left fun to hto => ?_
    have h1 := ways_gt hto
    exact behind_lg g k d to (by omega) (g.inr a _ hi to hto)
theorem behind_longest {l : List Ins} (g : Good l) (k : Nat) : lg (l ++ [ret k]) 0 = lg l 0 := behind_lg g k _ 0 (Nat.le_refl _) g.pos
/-! More ahead. -/
def cond (k : Nat) : Ins := ⟨21, 0, 1, k⟩
theorem ahead_longest (l : List Ins) (k : Nat) : lg (cond k :: ret k :: l) 0 = 1 + max 1 (lg l 0) := by
  have h : lg (cond k :: ret k :: l) 0 = max 1 (max ((lgl l).getD 0 0) 0) + 1 := by simp [lg, lgl, rel, cond, ret, maxl]
  rw [h]
  show _ = 1 + max 1 ((lgl l).getD 0 0)
  omega
theorem ahead_at {l : List Ins} {k a : Nat} {i : Ins} (h : (cond k :: ret k :: l)[a]? = some i) : (a = 0 ∧ i = cond k) ∨ (a = 1 ∧ i = ret k) ∨ ∃ b, a = b + 2 ∧ l[b]? = some i := by
  match a, h with
  | 0, h => exact .inl ⟨rfl, (Option.some.inj h).symm⟩
  | 1, h => exact .inr (.inl ⟨rfl, (Option.some.inj h).symm⟩)
  | b + 2, h => exact .inr (.inr ⟨b, rfl, h⟩)
theorem ahead_un {l : List Ins} {b k j : Nat} (h : Un (cond k :: ret k :: l) b j) : ∀ a, j = a + 2 → Un l b a := by
  induction h with
  | zero => intro a ha; omega
  | @step j' i' to h1 h2 h3 h4 ih =>
    intro a ha
    rcases ahead_at h2 with ⟨rfl, rfl⟩ | ⟨rfl, rfl⟩ | ⟨b2, rfl, h5⟩
    · have : to = 1 ∨ to = 2 := by simpa [ways, rel, cond] using h4
      obtain rfl : a = 0 := by omega
      exact .zero
    · simp [ways, rel_ret] at h4
    · refine .step (ih b2 rfl) h5 h3 ?_
      obtain ⟨d, hd, he⟩ := List.mem_map.1 h4
      exact List.mem_map.2 ⟨d, hd, by omega⟩
theorem ahead_good {l : List Ins} (g : Good l) (k : Nat) (hm : l.length < 4095) : Good (cond k :: ret k :: l) := by
  have hp := g.pos
  refine ⟨by simp, by simp; omega, ?_, ?_, ?_⟩
  · intro a i hi
    rcases ahead_at hi with ⟨rfl, rfl⟩ | ⟨rfl, rfl⟩ | ⟨b2, rfl, h5⟩
    · refine alone_zero.2 ⟨rfl, ?_, rfl⟩
      simp [jumpB, rel, cond]
      exact hp
    · exact alone_ret _ _
    · have := g.each b2 i h5
      simpa using this
  · intro i hi
    rcases ahead_at hi with ⟨h1, _⟩ | ⟨h1, _⟩ | ⟨b2, h1, h5⟩
    · simp at h1
    · simp only [List.length_cons] at h1; omega
    · refine g.ends i ?_
      rw [show l.length - 1 = b2 by simp at h1; omega]; exact h5
  · intro a i hi ht hu
    rcases ahead_at hi with ⟨rfl, rfl⟩ | ⟨rfl, rfl⟩ | ⟨b2, rfl, h5⟩
    · simp [takes, cond] at ht
    · simp [takes, ret] at ht
    · exact g.scr b2 i h5 ht (ahead_un hu b2 rfl)
end Go.Proofs.Ytcageojoafkojaa
namespace Go.Proofs.Ytcageojoafkojaa
/-- What a run has come to: A, X, the scratch numbers, the next place. -/
structure Mc where
  a : Nat
  x : Nat
  m : List Nat
  nx : Nat
structure Mc.ok (s : Mc) : Prop where
  a : s.a < 4294967296
  x : s.x < 4294967296
  m : s.m.length = 16
  ms : ∀ j, s.m.getD j 0 < 4294967296
def opd (i : Ins) (s : Mc) : Nat := if i.c / 8 % 2 = 1 then s.x else i.k
def ldN (W : Nat → Nat) (i : Ins) (m : List Nat) : Nat := if i.c / 32 = 1 then W i.k else if i.c / 32 = 3 then m.getD i.k 0 else if i.c / 32 = 4 then 64 else i.k
def reckN (op a n : Nat) : Nat :=
  if op = 0 then (a + n) % 4294967296 else if op = 1 then (a + 4294967296 - n) % 4294967296 else if op = 2 then a * n % 4294967296 else if op = 3 then a / n
  else if op = 4 then a ||| n else if op = 5 then a &&& n else if op = 6 then a * 2 ^ (n % 32) % 4294967296 else if op = 7 then a / 2 ^ (n % 32)
  else if op = 8 then (4294967296 - a) % 4294967296 else a ^^^ n
def holdsN (op a n : Nat) : Bool := if op = 1 then decide (a = n) else if op = 2 then decide (n < a) else if op = 3 then decide (n ≤ a) else a &&& n != 0
def farN (i : Ins) (s : Mc) : Nat := if i.c / 16 = 0 then i.k else if holdsN (i.c / 16) s.a (opd i s) = true then i.t else i.f
/-- One step; the action, if the run ends there. -/
def stepN (W : Nat → Nat) (i : Ins) (s : Mc) : Mc × Option Nat :=
  if i.c % 8 = 0 then ({ s with a := ldN W i s.m, nx := s.nx + 1 }, none)
  else if i.c % 8 = 1 then ({ s with x := ldN W i s.m, nx := s.nx + 1 }, none)
  else if i.c % 8 = 2 then ({ s with m := s.m.set i.k s.a, nx := s.nx + 1 }, none)
  else if i.c % 8 = 3 then ({ s with m := s.m.set i.k s.x, nx := s.nx + 1 }, none)
  else if i.c % 8 = 4 then
    if i.c / 16 = 3 ∧ opd i s = 0 then ({ s with nx := s.nx + 1 }, some 0) else ({ s with a := reckN (i.c / 16) s.a (opd i s), nx := s.nx + 1 }, none)
  else if i.c % 8 = 5 then ({ s with nx := s.nx + 1 + farN i s }, none)
  else if i.c % 8 = 6 then ({ s with nx := s.nx + 1 }, some (if i.c = 22 then s.a else i.k))
  else if i.c = 7 then ({ s with x := s.a, nx := s.nx + 1 }, none) else ({ s with a := s.x, nx := s.nx + 1 }, none)
/-- So many steps at most: each step's place, A and X behind it; the action. -/
def exec (W : Nat → Nat) (l : List Ins) : Nat → Mc → List (Nat × Nat × Nat) × Nat
  | 0, _ => ([], 2147483648)
  | n + 1, s => match l[s.nx]? with
    | none => ([], 2147483648)
    | some i => match stepN W i s with
      | (s', some r) => ([(s.nx, s'.a, s'.x)], r)
      | (s', none) => ((s.nx, s'.a, s'.x) :: (exec W l n s').1, (exec W l n s').2)
def mc0 : Mc := ⟨0, 0, List.replicate 16 0, 0⟩
def runN (W : Nat → Nat) (l : List Ins) : List (Nat × Nat × Nat) × Nat := exec W l l.length mc0
theorem step_nx (W : Nat → Nat) (i : Ins) (s : Mc) : s.nx < (stepN W i s).1.nx := by
  unfold stepN
  repeat' split
  all_goals (dsimp only; omega)
theorem exec_fuel (W : Nat → Nat) (l : List Ins) : ∀ (n m : Nat) (s : Mc), l.length - s.nx ≤ n → l.length - s.nx ≤ m → exec W l n s = exec W l m s
  | 0, 0, s, _, _ => rfl
  | 0, m + 1, s, h, _ => by
    have : l[s.nx]? = none := List.getElem?_eq_none (by omega)
    simp [exec, this]
  | n + 1, 0, s, _, h => by
    have : l[s.nx]? = none := List.getElem?_eq_none (by omega)
    simp [exec, this]
  | n + 1, m + 1, s, h1, h2 => by
    have hn := step_nx W
    simp only [exec]
    cases hi : l[s.nx]? with
    | none => rfl
    | some i =>
      have := hn i s
      dsimp only
      rcases hs : stepN W i s with ⟨s', _ | r⟩
      · rw [hs] at this
        dsimp only at this ⊢
        rw [exec_fuel W l n m s' (by omega) (by omega)]
      · rfl
/-- A run from here on. -/
def rest (W : Nat → Nat) (l : List Ins) (s : Mc) : List (Nat × Nat × Nat) × Nat := exec W l (l.length - s.nx) s
theorem run_rest (W : Nat → Nat) (l : List Ins) : runN W l = rest W l mc0 := rfl
theorem rest_end {W : Nat → Nat} {l : List Ins} {s : Mc} (h : l.length ≤ s.nx) : rest W l s = ([], 2147483648) := by
  unfold rest; rw [show l.length - s.nx = 0 by omega]; rfl
theorem rest_some {W : Nat → Nat} {l : List Ins} {s s' : Mc} {i : Ins} {r : Nat} (hi : l[s.nx]? = some i) (hs : stepN W i s = (s', some r)) : rest W l s = ([(s.nx, s'.a, s'.x)], r) := by
  have hl := (List.getElem?_eq_some_iff.1 hi).1
  unfold rest
  obtain ⟨n, hn⟩ : ∃ n, l.length - s.nx = n + 1 := ⟨l.length - s.nx - 1, by omega⟩
  rw [hn]
  simp [exec, hi, hs]
theorem rest_none {W : Nat → Nat} {l : List Ins} {s s' : Mc} {i : Ins} (hi : l[s.nx]? = some i) (hs : stepN W i s = (s', none)) : rest W l s = ((s.nx, s'.a, s'.x) :: (rest W l s').1, (rest W l s').2) := by
  have hl := (List.getElem?_eq_some_iff.1 hi).1
  have hx := step_nx W i s
  rw [hs] at hx
  dsimp only at hx
  unfold rest
  obtain ⟨n, hn⟩ : ∃ n, l.length - s.nx = n + 1 := ⟨l.length - s.nx - 1, by omega⟩
  rw [hn]
  simp only [exec, hi, hs]
  rw [exec_fuel W l n (l.length - s'.nx) s' (by omega) (by omega)]
/-- What has been told so far, and what is still to come. -/
def Live (W : Nat → Nat) (l : List Ins) (ts : List (Nat × Nat × Nat)) (s : Mc) : Prop := runN W l = (ts ++ (rest W l s).1, (rest W l s).2)
theorem live_0 (W : Nat → Nat) (l : List Ins) : Live W l [] mc0 := by unfold Live; rw [run_rest]; rfl
theorem live_none {W : Nat → Nat} {l : List Ins} {ts : List (Nat × Nat × Nat)} {s s' : Mc} {i : Ins} (h : Live W l ts s) (hi : l[s.nx]? = some i) (hs : stepN W i s = (s', none)) : Live W l (ts ++ [(s.nx, s'.a, s'.x)]) s' := by
  unfold Live at h ⊢; rw [h, rest_none hi hs]; simp
theorem live_some {W : Nat → Nat} {l : List Ins} {ts : List (Nat × Nat × Nat)} {s s' : Mc} {i : Ins} {r : Nat} (h : Live W l ts s) (hi : l[s.nx]? = some i) (hs : stepN W i s = (s', some r)) : runN W l = (ts ++ [(s.nx, s'.a, s'.x)], r) := by
  unfold Live at h; rw [h, rest_some hi hs]
theorem live_out {W : Nat → Nat} {l : List Ins} {ts : List (Nat × Nat × Nat)} {s : Mc} (h : Live W l ts s) (hl : l.length ≤ s.nx) : runN W l = (ts, 2147483648) := by
  unfold Live at h; rw [h, rest_end hl]; simp
theorem rest_len (W : Nat → Nat) (l : List Ins) : ∀ (n : Nat) (s : Mc), (exec W l n s).1.length ≤ n
  | 0, s => by simp [exec]
  | n + 1, s => by
    simp only [exec]
    cases l[s.nx]? with
    | none => simp
    | some i =>
      dsimp only
      rcases hs : stepN W i s with ⟨s', _ | r⟩
      · have := rest_len W l n s'
        simp; omega
      · simp
theorem run_len (W : Nat → Nat) (l : List Ins) : (runN W l).1.length ≤ l.length := rest_len W l _ _
/-- The next place is one of the ways. -/
theorem step_ways {W : Nat → Nat} {i : Ins} {s s' : Mc} (hk : knownB i.c = true) (h : stepN W i s = (s', none)) : s'.nx ∈ ways i s.nx := by
  have hc : i.c ∈ codesL := by simpa [knownB] using hk
  unfold stepN at h
  unfold ways rel
  by_cases h6 : i.c % 8 = 6
  · simp [h6] at h
  by_cases h5 : i.c % 8 = 5
  · simp only [h5] at h ⊢
    simp at h
    subst h
    have e : i.c / 16 = 0 ↔ i.c = 5 := by
      simp only [codesL, List.mem_cons, List.not_mem_nil, or_false] at hc
      omega
    unfold farN
    by_cases e5 : i.c = 5
    · simp [e5]
    · rw [if_neg (fun x => e5 (e.1 x))]
      simp [e5]
      by_cases hh : holdsN (i.c / 16) s.a (opd i s) = true <;> simp [hh]
  · have hx : s'.nx = s.nx + 1 := by
      simp only [h5, h6, if_false] at h
      repeat' split at h
      all_goals (first | (cases h; rfl) | cases h)
    simp [h6, h5, hx]
theorem mem_maxl {l : List Nat} {x : Nat} (h : x ∈ l) : x ≤ maxl l := by
  induction l with
  | nil => simp at h
  | cons y l ih =>
    simp only [List.mem_cons] at h
    simp only [maxl, List.foldr_cons]
    rcases h with rfl | h
    · omega
    · have := ih h; simp only [maxl] at this; omega
theorem exec_lg {W : Nat → Nat} {l : List Ins} (g : Good l) : ∀ (n : Nat) (s : Mc), (exec W l n s).1.length ≤ lg l s.nx
  | 0, s => by simp [exec]
  | n + 1, s => by
    simp only [exec]
    cases hi : l[s.nx]? with
    | none => simp
    | some i =>
      have hl := lg_step hi
      have hk := (alone_zero.1 (g.each _ _ hi)).1
      dsimp only
      rcases hs : stepN W i s with ⟨s', _ | r⟩
      · have := exec_lg g (W := W) n s'
        have hw := step_ways hk hs
        have := mem_maxl (List.mem_map_of_mem (f := lg l) hw)
        simp; omega
      · simp; omega
theorem run_lg {W : Nat → Nat} {l : List Ins} (g : Good l) : (runN W l).1.length ≤ lg l 0 := exec_lg g _ _
/-- Numbers stay numbers of thirty-two bits. -/
theorem getD_set0 (l : List Nat) (k j v : Nat) : (l.set k v).getD j 0 = if j = k ∧ k < l.length then v else l.getD j 0 := getD_set l k j v 0
theorem reck_lt {op a n : Nat} (ha : a < 4294967296) (hn : n < 4294967296) : reckN op a n < 4294967296 := by
  unfold reckN
  have h1 : a ||| n < 2 ^ 32 := Nat.or_lt_two_pow (by omega) (by omega)
  have h2 : a &&& n < 2 ^ 32 := Nat.and_lt_two_pow _ (by omega)
  have h3 : a ^^^ n < 2 ^ 32 := Nat.xor_lt_two_pow (by omega) (by omega)
  have h4 : a / n ≤ a := Nat.div_le_self _ _
  have h5 : a / 2 ^ (n % 32) ≤ a := Nat.div_le_self _ _
  repeat' split
  all_goals omega
theorem opd_lt {i : Ins} {s : Mc} (hs : s.ok) (hk : i.k < 4294967296) : opd i s < 4294967296 := by
  unfold opd; split
  · exact hs.x
  · exact hk
theorem ld_lt {W : Nat → Nat} {i : Ins} {s : Mc} (hW : ∀ k, W k < 4294967296) (hs : s.ok) (hk : i.k < 4294967296) : ldN W i s.m < 4294967296 := by
  unfold ldN
  have := hW i.k
  have := hs.ms i.k
  repeat' split
  all_goals omega
theorem step_ok {W : Nat → Nat} {i : Ins} {s : Mc} (hW : ∀ k, W k < 4294967296) (hs : s.ok) (hk : i.k < 4294967296) : (stepN W i s).1.ok := by
  have h1 := ld_lt hW hs hk
  have h2 := opd_lt hs hk
  have h3 := fun op => reck_lt (op := op) hs.a h2
  obtain ⟨ha, hx, hm, hms⟩ := hs
  unfold stepN
  repeat' split
  all_goals (refine ⟨?_, ?_, ?_, ?_⟩ <;> dsimp only <;> first | assumption | exact h1 | exact h3 _ | (simp only [List.length_set]; exact hm) | (intro j; rw [getD_set0]; split <;> first | assumption | exact hms j))
theorem mc0_ok : mc0.ok := ⟨by decide, by decide, rfl, fun j => by simp only [mc0, List.getD_eq_getElem?_getD, List.getElem?_replicate]; split <;> decide⟩
theorem act_lt {W : Nat → Nat} {i : Ins} {s s' : Mc} {r : Nat} (h : stepN W i s = (s', some r)) (hs : s.ok) (hk : i.k < 4294967296) : r < 4294967296 := by
  have := hs.a
  unfold stepN at h
  repeat' split at h
  all_goals (cases h <;> first | omega | (split <;> omega))
end Go.Proofs.Ytcageojoafkojaa

