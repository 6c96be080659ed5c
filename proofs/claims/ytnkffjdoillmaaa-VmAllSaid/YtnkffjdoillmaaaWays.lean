/- Ways through a filter, as plain lists: where an instruction goes on; what is stored on each way; what is reached; the longest way; what is left when the rest goes. -/
import Derived.Test.YtnkffjdoillmaaaMath
namespace Go.Proofs.Ytnkffjdoillmaaa

/-- How far beyond the next one its ways go. -/
def rel (i : Ins) : List Nat := if i.c % 8 = 6 then [] else if i.c % 8 ≠ 5 then [0] else if i.c = 5 then [i.k] else [i.t, i.f]
def ways (i : Ins) (a : Nat) : List Nat := (rel i).map fun d => a + 1 + d
def takes (i : Ins) : Bool := i.c == 96 || i.c == 97
def puts (i : Ins) : Bool := i.c == 2 || i.c == 3
def takenN (i : Ins) : Nat := if takes i = true then 2 ^ i.k else 0
def putN (i : Ins) : Nat := if puts i = true then 2 ^ i.k else 0
def rangeB (i : Ins) : Bool :=
  if i.c = 32 then i.k % 4 == 0 && decide (i.k ≤ 60)
  else if i.c = 96 ∨ i.c = 97 ∨ i.c = 2 ∨ i.c = 3 then decide (i.k < 16)
  else if i.c = 52 then i.k != 0
  else if i.c = 100 ∨ i.c = 116 then decide (i.k < 32) else true
def jumpB (i : Ins) (left : Nat) : Bool := i.c % 8 != 5 || (rel i).all (fun d => decide (d < left))
/-- What is wrong with an instruction behind which so many stand; 0: nothing. -/
def alone (i : Ins) (left : Nat) : Nat := if knownB i.c = false then 208 else if jumpB i left = false then 207 else if rangeB i = false then 204 else 0
/-- A way to a place on which a scratch number isn't stored. -/
inductive Un (l : List Ins) (b : Nat) : Nat → Prop
  | zero : Un l b 0
  | step {j : Nat} {i : Ins} {to : Nat} : Un l b j → l[j]? = some i → ¬ (puts i = true ∧ i.k = b) → to ∈ ways i j → Un l b to
/-- A way to a place. -/
inductive Reach (l : List Ins) : Nat → Prop
  | zero : Reach l 0
  | step {j : Nat} {i : Ins} {to : Nat} : Reach l j → l[j]? = some i → to ∈ ways i j → Reach l to
/-- It may be loaded. -/
structure Good (l : List Ins) : Prop where
  pos : 0 < l.length
  many : l.length ≤ 4096
  each : ∀ (a : Nat) (i : Ins), l[a]? = some i → alone i (l.length - a - 1) = 0
  ends : ∀ (i : Ins), l[l.length - 1]? = some i → i.c % 8 = 6
  scr : ∀ (a : Nat) (i : Ins), l[a]? = some i → takes i = true → ¬ Un l i.k a
/-- What is wrong first, and where. -/
inductive Chk (l : List Ins) : Nat → Nat → Prop
  | none : l.length = 0 → Chk l 0 203
  | many : 4096 < l.length → Chk l 4096 205
  | each (a : Nat) (i : Ins) (e : Nat) : 0 < l.length → l.length ≤ 4096 → (∀ (j : Nat) (x : Ins), j < a → l[j]? = some x → alone x (l.length - j - 1) = 0) → l[a]? = some i → alone i (l.length - a - 1) = e → e ≠ 0 → Chk l a e
  | ends (i : Ins) : 0 < l.length → l.length ≤ 4096 → (∀ (j : Nat) (x : Ins), l[j]? = some x → alone x (l.length - j - 1) = 0) → l[l.length - 1]? = some i → i.c % 8 ≠ 6 → Chk l (l.length - 1) 209
  | scr (a : Nat) (i : Ins) : 0 < l.length → l.length ≤ 4096 → (∀ (j : Nat) (x : Ins), l[j]? = some x → alone x (l.length - j - 1) = 0) → (∀ (x : Ins), l[l.length - 1]? = some x → x.c % 8 = 6) →
      (∀ (j : Nat) (x : Ins), j < a → l[j]? = some x → takes x = true → ¬ Un l x.k j) → l[a]? = some i → takes i = true → Un l i.k a → Chk l a 2
  | good : Good l → Chk l 0 0
theorem Chk.good_iff {l : List Ins} {a e : Nat} (h : Chk l a e) : e = 0 ↔ Good l := by
  cases h with
  | none h1 => exact ⟨fun h => by omega, fun g => by have := g.pos; omega⟩
  | many h1 => exact ⟨fun h => by omega, fun g => by have := g.many; omega⟩
  | each _ i _ h0 h1 h2 h3 h4 h5 => exact ⟨fun h => absurd h h5, fun g => by rw [← h4]; exact g.each _ _ h3⟩
  | ends i h0 h1 h2 h3 h4 => exact ⟨fun h => by omega, fun g => absurd (g.ends _ h3) h4⟩
  | scr _ i h0 h1 h2 h3 h4 h5 h6 h7 => exact ⟨fun h => by omega, fun g => absurd h7 (g.scr _ _ h5 h6)⟩
  | good g => exact ⟨fun _ => g, fun _ => rfl⟩
theorem Chk.zero {l : List Ins} {a : Nat} (h : Chk l a 0) : a = 0 := by
  cases h with
  | each _ i _ h0 h1 h2 h3 h4 h5 => exact absurd rfl h5
  | good g => rfl
theorem alone_lt (i : Ins) (n : Nat) : alone i n < 300 := by
  unfold alone
  split
  · omega
  · split
    · omega
    · split <;> omega
theorem alone_zero {i : Ins} {n : Nat} : alone i n = 0 ↔ knownB i.c = true ∧ jumpB i n = true ∧ rangeB i = true := by
  unfold alone
  by_cases h1 : knownB i.c = false
  · simp [h1]
  · by_cases h2 : jumpB i n = false
    · simp [h1, h2]
    · by_cases h3 : rangeB i = false
      · simp [h1, h2, h3]
      · simp only [Bool.not_eq_false] at h1 h2 h3
        simp [h1, h2, h3]
theorem Chk.lt {l : List Ins} {a e : Nat} (h : Chk l a e) : a ≤ 4096 ∧ e < 300 := by
  cases h with
  | none h1 => omega
  | many h1 => omega
  | each _ i _ h0 h1 h2 h3 h4 h5 =>
    have := (List.getElem?_eq_some_iff.1 h3).1
    have := alone_lt i (l.length - a - 1)
    omega
  | ends i h0 h1 h2 h3 h4 => omega
  | scr _ i h0 h1 h2 h3 h4 h5 h6 h7 =>
    have := (List.getElem?_eq_some_iff.1 h5).1
    omega
  | good g => omega
/-- Ways go forward. -/
theorem ways_gt {i : Ins} {a to : Nat} (h : to ∈ ways i a) : a < to := by
  obtain ⟨d, _, rfl⟩ := List.mem_map.1 h
  omega
theorem jump_in {i : Ins} {n d : Nat} (hj : jumpB i n = true) (h5 : i.c % 8 = 5) (hd : d ∈ rel i) : d < n := by
  unfold jumpB at hj
  simp only [h5, bne_self_eq_false, Bool.false_or, List.all_eq_true, decide_eq_true_eq] at hj
  exact hj d hd
/-- Each way of each ends at one of them. -/
def Inr (l : List Ins) : Prop := ∀ (a : Nat) (i : Ins), l[a]? = some i → ∀ to ∈ ways i a, to < l.length
theorem inr_of {l : List Ins} (h1 : ∀ (j : Nat) (x : Ins), l[j]? = some x → alone x (l.length - j - 1) = 0) (h2 : ∀ (x : Ins), l[l.length - 1]? = some x → x.c % 8 = 6) : Inr l := by
  intro a i hi to hto
  have ha := (List.getElem?_eq_some_iff.1 hi).1
  obtain ⟨d, hd, rfl⟩ := List.mem_map.1 hto
  by_cases h5 : i.c % 8 = 5
  · have := jump_in (alone_zero.1 (h1 a i hi)).2.1 h5 hd
    omega
  · by_cases h6 : i.c % 8 = 6
    · simp [rel, h6] at hd
    · have h0 : d = 0 := by simpa [rel, h5, h6] using hd
      have : a ≠ l.length - 1 := fun e => h6 (h2 i (e ▸ hi))
      omega
theorem Good.inr {l : List Ins} (g : Good l) : Inr l := inr_of g.each g.ends
/-! What is stored. -/
theorem getD_set {α : Type} (l : List α) (k j : Nat) (v d : α) : (l.set k v).getD j d = if j = k ∧ k < l.length then v else l.getD j d := by
  rw [List.getD_eq_getElem?_getD, List.getD_eq_getElem?_getD, List.getElem?_set]
  by_cases h : k = j
  · subst h
    by_cases h2 : k < l.length
    · simp [h2]
    · simp [h2]
  · rw [if_neg h, if_neg (fun e => h e.1.symm)]
def upd (st : List Nat) (v : Nat) (tos : List Nat) : List Nat := tos.foldl (fun s to => s.set to (s.getD to 0 &&& v)) st
theorem upd_len (st : List Nat) (v : Nat) (tos : List Nat) : (upd st v tos).length = st.length := by
  unfold upd
  induction tos generalizing st with
  | nil => rfl
  | cons x t ih => rw [List.foldl_cons, ih, List.length_set]
theorem upd_get (st : List Nat) (v : Nat) (tos : List Nat) (j : Nat) : (upd st v tos).getD j 0 = if j ∈ tos then st.getD j 0 &&& v else st.getD j 0 := by
  induction tos generalizing st with
  | nil => simp [upd]
  | cons x t ih =>
    have e : upd st v (x :: t) = upd (st.set x (st.getD x 0 &&& v)) v t := rfl
    have e2 : (st.set x (st.getD x 0 &&& v)).getD j 0 = if j = x then st.getD j 0 &&& v else st.getD j 0 := by
      rw [getD_set]
      by_cases hjx : j = x
      · subst hjx
        by_cases hl : j < st.length
        · simp [hl]
        · have : st.getD j 0 = 0 := by rw [List.getD_eq_getElem?_getD, List.getElem?_eq_none (by omega)]; rfl
          simp [hl]
      · simp [hjx]
    rw [e, ih, e2]
    by_cases h1 : j ∈ t <;> by_cases h2 : j = x <;> simp [h1, h2, Nat.and_assoc]
def stf (l : List Ins) : Nat → List Nat
  | 0 => (List.replicate l.length 65535).set 0 0
  | k + 1 => match l[k]? with
    | none => stf l k
    | some i => upd (stf l k) ((stf l k).getD k 0 ||| putN i) (ways i k)
theorem stf_len (l : List Ins) (k : Nat) : (stf l k).length = l.length := by
  induction k with
  | zero => simp [stf]
  | succ k ih =>
    unfold stf
    split
    · exact ih
    · rw [upd_len]; exact ih
theorem stf_step {l : List Ins} {k : Nat} {i : Ins} (h : l[k]? = some i) : stf l (k + 1) = upd (stf l k) ((stf l k).getD k 0 ||| putN i) (ways i k) := by
  rw [stf, h]
def UnB (l : List Ins) (b k j : Nat) : Prop := j = 0 ∨ ∃ m i, m < k ∧ Un l b m ∧ l[m]? = some i ∧ ¬ (puts i = true ∧ i.k = b) ∧ j ∈ ways i m
theorem unB_iff {l : List Ins} {b k : Nat} : UnB l b k k ↔ Un l b k := by
  constructor
  · rintro (rfl | ⟨m, i, _, h1, h2, h3, h4⟩)
    · exact .zero
    · exact .step h1 h2 h3 h4
  · intro h
    cases h with
    | zero => exact .inl rfl
    | step h1 h2 h3 h4 => exact .inr ⟨_, _, ways_gt h4, h1, h2, h3, h4⟩
theorem put_bit (i : Ins) (b : Nat) : (putN i).testBit b = true ↔ (puts i = true ∧ i.k = b) := by
  unfold putN
  by_cases h : puts i = true
  · rw [if_pos h, Nat.testBit_two_pow]; simp [h]
  · rw [if_neg h]; simp [h]
theorem stf_spec (l : List Ins) (b : Nat) (hb : b < 16) : ∀ (k : Nat), k ≤ l.length → ∀ j, j < l.length → (((stf l k).getD j 0).testBit b = true ↔ ¬ UnB l b k j)
  | 0, _, j, hj => by
    have e : (stf l 0).getD j 0 = if j = 0 then 0 else 65535 := by
      rw [stf, getD_set]
      by_cases h : j = 0
      · subst h; simp [hj]
      · simp [h, List.getD_eq_getElem?_getD, hj]
    rw [e]
    by_cases h : j = 0
    · simp [h, UnB]
    · have : Nat.testBit 65535 b = true := by
        rw [show 65535 = 2 ^ 16 - 1 from rfl, Nat.testBit_two_pow_sub_one]; simpa using hb
      simp [h, this, UnB]
  | k + 1, hk, j, hj => by
    obtain ⟨i, hi⟩ : ∃ i, l[k]? = some i := ⟨_, List.getElem?_eq_getElem (by omega)⟩
    have ih := stf_spec l b hb k (by omega)
    rw [stf_step hi, upd_get]
    have hu : UnB l b (k + 1) j ↔ UnB l b k j ∨ (Un l b k ∧ ¬ (puts i = true ∧ i.k = b) ∧ j ∈ ways i k) := by
      constructor
      · rintro (h | ⟨m, x, h0, h1, h2, h3, h4⟩)
        · exact .inl (.inl h)
        · rcases (by omega : m < k ∨ m = k) with h5 | rfl
          · exact .inl (.inr ⟨m, x, h5, h1, h2, h3, h4⟩)
          · rw [hi] at h2
            cases h2
            exact .inr ⟨h1, h3, h4⟩
      · rintro ((h | ⟨m, x, h0, h1, h2, h3, h4⟩) | ⟨h1, h3, h4⟩)
        · exact .inl h
        · exact .inr ⟨m, x, by omega, h1, h2, h3, h4⟩
        · exact .inr ⟨k, i, by omega, h1, hi, h3, h4⟩
    rw [hu]
    by_cases hw : j ∈ ways i k
    · rw [if_pos hw, Nat.testBit_and, Nat.testBit_or, Bool.and_eq_true, Bool.or_eq_true, ih j hj, ih k (by omega), put_bit, unB_iff]
      constructor
      · rintro ⟨h1, h2⟩ (h3 | ⟨h3, h4, _⟩)
        · exact h1 h3
        · rcases h2 with h2 | h2
          · exact h2 h3
          · exact h4 h2
      · intro h
        refine ⟨fun h1 => h (.inl h1), ?_⟩
        by_cases h1 : Un l b k
        · right
          by_cases h2 : puts i = true ∧ i.k = b
          · exact h2
          · exact absurd (.inr ⟨h1, h2, hw⟩) h
        · exact .inl h1
    · rw [if_neg hw, ih j hj]
      constructor
      · rintro h1 (h2 | ⟨_, _, h2⟩)
        · exact h1 h2
        · exact hw h2
      · exact fun h h1 => h (.inl h1)
theorem stf_lt (l : List Ins) (hok : ∀ i ∈ l, rangeB i = true) : ∀ k j, (stf l k).getD j 0 < 65536
  | 0, j => by
    rw [stf, getD_set]
    split
    · omega
    · rw [List.getD_eq_getElem?_getD, List.getElem?_replicate]
      split <;> simp
  | k + 1, j => by
    unfold stf
    split
    · exact stf_lt l hok k j
    · rename_i i hi
      rw [upd_get]
      split
      · exact Nat.lt_of_le_of_lt Nat.and_le_left (stf_lt l hok k j)
      · exact stf_lt l hok k j
theorem scratch_lt {i : Ins} (h : rangeB i = true) (h2 : i.c = 96 ∨ i.c = 97 ∨ i.c = 2 ∨ i.c = 3) : i.k < 16 := by
  unfold rangeB at h
  rw [if_neg (by omega), if_pos h2] at h
  simpa using h
theorem takes_lt {i : Ins} (h : rangeB i = true) (h2 : takes i = true) : i.k < 16 := by
  simp only [takes, Bool.or_eq_true, beq_iff_eq] at h2
  exact scratch_lt h (by omega)
theorem puts_lt {i : Ins} (h : rangeB i = true) (h2 : puts i = true) : i.k < 16 := by
  simp only [puts, Bool.or_eq_true, beq_iff_eq] at h2
  exact scratch_lt h (by omega)
theorem putN_lt {i : Ins} (h : rangeB i = true) : putN i < 65536 := by
  unfold putN
  split
  · rename_i h2
    have := Nat.pow_lt_pow_right (a := 2) (by omega) (puts_lt h h2)
    omega
  · omega
theorem takenN_lt {i : Ins} (h : rangeB i = true) : takenN i < 65536 := by
  unfold takenN
  split
  · rename_i h2
    have := Nat.pow_lt_pow_right (a := 2) (by omega) (takes_lt h h2)
    omega
  · omega
/-- Is what it loads stored? -/
theorem stf_bad {l : List Ins} {k : Nat} {i : Ins} (hi : l[k]? = some i) (hr : rangeB i = true) : (∀ b, (takenN i).testBit b = true → ((stf l k).getD k 0).testBit b = true) ↔ (takes i = true → ¬ Un l i.k k) := by
  have hk := (List.getElem?_eq_some_iff.1 hi).1
  unfold takenN
  by_cases ht : takes i = true
  · have h16 := takes_lt hr ht
    rw [if_pos ht]
    constructor
    · intro h _ hu
      have := h i.k (by rw [Nat.testBit_two_pow]; simp)
      rw [stf_spec l i.k h16 k (by omega) k hk, unB_iff] at this
      exact this hu
    · intro h b hb
      rw [Nat.testBit_two_pow] at hb
      obtain rfl : i.k = b := by simpa using hb
      rw [stf_spec l i.k h16 k (by omega) k hk, unB_iff]
      exact h ht
  · simp [ht]
/-! What is reached. -/
def setAll (rs : List Bool) (tos : List Nat) : List Bool := tos.foldl (fun s to => s.set to true) rs
theorem setAll_len (rs : List Bool) (tos : List Nat) : (setAll rs tos).length = rs.length := by
  unfold setAll
  induction tos generalizing rs with
  | nil => rfl
  | cons x t ih => rw [List.foldl_cons, ih, List.length_set]
theorem setAll_get (rs : List Bool) (tos : List Nat) (j : Nat) (hj : j < rs.length) : (setAll rs tos).getD j false = true ↔ rs.getD j false = true ∨ j ∈ tos := by
  induction tos generalizing rs with
  | nil => simp [setAll]
  | cons x t ih =>
    have e : setAll rs (x :: t) = setAll (rs.set x true) t := rfl
    rw [e, ih _ (by simpa using hj), getD_set]
    by_cases h : j = x
    · subst h; simp [hj]
    · simp [h]
def rcf (l : List Ins) : Nat → List Bool
  | 0 => (List.replicate l.length false).set 0 true
  | k + 1 => match l[k]? with
    | none => rcf l k
    | some i => if (rcf l k).getD k false = true then setAll (rcf l k) (ways i k) else rcf l k
theorem rcf_len (l : List Ins) (k : Nat) : (rcf l k).length = l.length := by
  induction k with
  | zero => simp [rcf]
  | succ k ih =>
    unfold rcf
    split
    · exact ih
    · split
      · rw [setAll_len]; exact ih
      · exact ih
theorem rcf_step {l : List Ins} {k : Nat} {i : Ins} (h : l[k]? = some i) : rcf l (k + 1) = if (rcf l k).getD k false = true then setAll (rcf l k) (ways i k) else rcf l k := by
  rw [rcf, h]
def ReB (l : List Ins) (k j : Nat) : Prop := j = 0 ∨ ∃ m i, m < k ∧ Reach l m ∧ l[m]? = some i ∧ j ∈ ways i m
theorem reB_iff {l : List Ins} {k j : Nat} (h : j ≤ k) : ReB l k j ↔ Reach l j := by
  constructor
  · rintro (rfl | ⟨m, i, _, h1, h2, h4⟩)
    · exact .zero
    · exact .step h1 h2 h4
  · intro h0
    cases h0 with
    | zero => exact .inl rfl
    | step h1 h2 h4 => exact .inr ⟨_, _, Nat.lt_of_lt_of_le (ways_gt h4) h, h1, h2, h4⟩
theorem rcf_spec (l : List Ins) : ∀ (k : Nat), k ≤ l.length → ∀ j, j < l.length → ((rcf l k).getD j false = true ↔ ReB l k j)
  | 0, _, j, hj => by
    rw [rcf, getD_set]
    by_cases h : j = 0
    · subst h; simp [hj, ReB]
    · simp [h, ReB, List.getD_eq_getElem?_getD, hj]
  | k + 1, hk, j, hj => by
    obtain ⟨i, hi⟩ : ∃ i, l[k]? = some i := ⟨_, List.getElem?_eq_getElem (by omega)⟩
    have ih := rcf_spec l k (by omega)
    rw [rcf_step hi]
    have hu : ReB l (k + 1) j ↔ ReB l k j ∨ (Reach l k ∧ j ∈ ways i k) := by
      constructor
      · rintro (h | ⟨m, x, h0, h1, h2, h4⟩)
        · exact .inl (.inl h)
        · rcases (by omega : m < k ∨ m = k) with h5 | rfl
          · exact .inl (.inr ⟨m, x, h5, h1, h2, h4⟩)
          · rw [hi] at h2
            cases h2
            exact .inr ⟨h1, h4⟩
      · rintro ((h | ⟨m, x, h0, h1, h2, h4⟩) | ⟨h1, h4⟩)
        · exact .inl h
        · exact .inr ⟨m, x, by omega, h1, h2, h4⟩
        · exact .inr ⟨k, i, by omega, h1, hi, h4⟩
    rw [hu]
    have hkk := ih k (by omega)
    rw [reB_iff (Nat.le_refl k)] at hkk
    by_cases hr : (rcf l k).getD k false = true
    · rw [if_pos hr, setAll_get _ _ _ (by rw [rcf_len]; exact hj), ih j hj]
      have := hkk.1 hr
      simp [this]
    · rw [if_neg hr, ih j hj]
      have : ¬ Reach l k := fun h => hr (hkk.2 h)
      simp [this]
/-- To which instructions a way goes. -/
def rc (l : List Ins) : List Bool := rcf l l.length
theorem rc_len (l : List Ins) : (rc l).length = l.length := rcf_len _ _
theorem rc_iff {l : List Ins} {j : Nat} (h : j < l.length) : (rc l).getD j false = true ↔ Reach l j := by
  unfold rc
  rw [rcf_spec l _ (Nat.le_refl _) j h, reB_iff (by omega)]
/-! The longest way. -/
def maxl (l : List Nat) : Nat := l.foldr max 0
def lgl : List Ins → List Nat
  | [] => []
  | i :: l => (maxl ((rel i).map fun d => (lgl l).getD d 0) + 1) :: lgl l
theorem lgl_len (l : List Ins) : (lgl l).length = l.length := by
  induction l with
  | nil => rfl
  | cons i l ih => simp [lgl, ih]
theorem lgl_drop : ∀ (l : List Ins) (a : Nat), (lgl l).drop a = lgl (l.drop a)
  | [], a => by simp [lgl]
  | i :: l, 0 => rfl
  | i :: l, a + 1 => by rw [List.drop_succ_cons, ← lgl_drop l a]; rfl
def lg (l : List Ins) (a : Nat) : Nat := (lgl l).getD a 0
theorem lg_step {l : List Ins} {a : Nat} {i : Ins} (h : l[a]? = some i) : lg l a = maxl ((ways i a).map (lg l)) + 1 := by
  have e : l.drop a = i :: l.drop (a + 1) := by
    obtain ⟨h1, h2⟩ := List.getElem?_eq_some_iff.1 h
    rw [← h2]; exact List.drop_eq_getElem_cons h1
  have h0 : ∀ d, (lgl l).getD (a + d) 0 = (lgl (l.drop a)).getD d 0 := fun d => by
    rw [← lgl_drop, List.getD_eq_getElem?_getD, List.getD_eq_getElem?_getD, List.getElem?_drop]
  have h1 : lg l a = (lgl (l.drop a)).getD 0 0 := h0 0
  rw [h1, e, lgl]
  show maxl _ + 1 = _
  congr 2
  unfold ways
  rw [List.map_map]
  refine List.map_congr_left fun d _ => ?_
  have := h0 (1 + d)
  rw [e, lgl, Nat.add_comm 1 d, List.getD_cons_succ, Nat.add_comm d 1, ← Nat.add_assoc] at this
  exact this.symm
theorem maxl_le {l : List Nat} {n : Nat} (h : ∀ x ∈ l, x ≤ n) : maxl l ≤ n := by
  induction l with
  | nil => exact Nat.zero_le _
  | cons x l ih =>
    show max x (maxl l) ≤ n
    have := ih fun y hy => h y (List.mem_cons_of_mem _ hy)
    have := h x List.mem_cons_self
    omega
theorem lgl_le : ∀ (l : List Ins), ∀ x ∈ lgl l, x ≤ l.length
  | [] => by simp [lgl]
  | i :: l => by
    intro x hx
    have ih := lgl_le l
    rw [lgl] at hx
    rcases List.mem_cons.1 hx with rfl | hx
    · have : maxl ((rel i).map fun d => (lgl l).getD d 0) ≤ l.length := maxl_le fun y hy => by
        obtain ⟨d, _, rfl⟩ := List.mem_map.1 hy
        rw [List.getD_eq_getElem?_getD]
        rcases h : (lgl l)[d]? with _ | v
        · simp
        · exact ih v (List.mem_of_getElem? h)
      simp only [List.length_cons]; omega
    · have := ih x hx
      simp only [List.length_cons]; omega
theorem lg_le (l : List Ins) (a : Nat) : lg l a ≤ l.length := by
  unfold lg
  rw [List.getD_eq_getElem?_getD]
  rcases h : (lgl l)[a]? with _ | v
  · simp
  · exact lgl_le l v (List.mem_of_getElem? h)
end Go.Proofs.Ytnkffjdoillmaaa

