/- What is left when the rest goes: it may be loaded, takes as many steps, is reached all. More behind, more ahead. Plain lists. -/
import Derived.Test.YtnkffjdoillmaaaWays
namespace Go.Proofs.Ytnkffjdoillmaaa
/-- How many ahead of a place. -/
def cnt (R : Nat → Bool) : Nat → Nat
  | 0 => 0
  | k + 1 => if R k = true then cnt R k + 1 else cnt R k
/-- What stands at those places. -/
def pick {α : Type} (R : Nat → Bool) (g : Nat → α) : Nat → List α
  | 0 => []
  | k + 1 => if R k = true then pick R g k ++ [g k] else pick R g k
section
variable {R : Nat → Bool} {α : Type} {g : Nat → α}
theorem cnt_yes {k : Nat} (h : R k = true) : cnt R (k + 1) = cnt R k + 1 := by rw [cnt, if_pos h]
theorem cnt_no {k : Nat} (h : R k = false) : cnt R (k + 1) = cnt R k := by rw [cnt, if_neg (by simp [h])]
theorem pick_yes {k : Nat} (h : R k = true) : pick R g (k + 1) = pick R g k ++ [g k] := by rw [pick, if_pos h]
theorem pick_no {k : Nat} (h : R k = false) : pick R g (k + 1) = pick R g k := by rw [pick, if_neg (by simp [h])]
theorem pick_len (k : Nat) : (pick R g k).length = cnt R k := by
  induction k with
  | zero => rfl
  | succ k ih =>
    cases h : R k with
    | true => rw [pick_yes h, cnt_yes h, List.length_append, ih]; rfl
    | false => rw [pick_no h, cnt_no h, ih]
theorem cnt_step (k : Nat) : cnt R k ≤ cnt R (k + 1) ∧ cnt R (k + 1) ≤ cnt R k + 1 := by
  cases h : R k with
  | true => rw [cnt_yes h]; omega
  | false => rw [cnt_no h]; omega
theorem cnt_mono {j k : Nat} (h : j ≤ k) : cnt R j ≤ cnt R k := by
  induction k with
  | zero => rw [Nat.le_zero.1 h]; exact Nat.le_refl _
  | succ k ih =>
    rcases (by omega : j ≤ k ∨ j = k + 1) with h1 | rfl
    · exact Nat.le_trans (ih h1) (cnt_step k).1
    · exact Nat.le_refl _
theorem cnt_far (j d : Nat) : cnt R (j + d) ≤ cnt R j + d := by
  induction d with
  | zero => exact Nat.le_refl _
  | succ d ih => have := (cnt_step (R := R) (j + d)).2; rw [← Nat.add_assoc]; omega
theorem cnt_le (k : Nat) : cnt R k ≤ k := by have := cnt_far (R := R) 0 k; simpa [cnt] using this
theorem cnt_lt {j k : Nat} (h : R j = true) (hk : j < k) : cnt R j < cnt R k := by
  have := cnt_mono (R := R) (show j + 1 ≤ k from hk)
  rw [cnt_yes h] at this; omega
theorem cnt_inj {j k : Nat} (hj : R j = true) (hk : R k = true) (h : cnt R j = cnt R k) : j = k := by
  rcases Nat.lt_trichotomy j k with h1 | h1 | h1
  · have := cnt_lt hj h1; omega
  · exact h1
  · have := cnt_lt hk h1; omega
theorem pick_at : ∀ (n j : Nat), j < n → R j = true → (pick R g n)[cnt R j]? = some (g j)
  | n + 1, j, hj, h => by
    rcases (by omega : j < n ∨ j = n) with h1 | rfl
    · have ih := pick_at n j h1 h
      cases hn : R n with
      | true => rw [pick_yes hn, List.getElem?_append_left (by rw [pick_len]; exact cnt_lt h h1)]; exact ih
      | false => rw [pick_no hn]; exact ih
    · rw [pick_yes h, List.getElem?_append_right (by rw [pick_len]; exact Nat.le_refl _), pick_len, Nat.sub_self]; rfl
theorem pick_of : ∀ (n m : Nat), m < cnt R n → ∃ j, j < n ∧ R j = true ∧ cnt R j = m
  | 0, m, h => by simp [cnt] at h
  | n + 1, m, h => by
    cases hn : R n with
    | true =>
      rw [cnt_yes hn] at h
      rcases (by omega : m < cnt R n ∨ m = cnt R n) with h1 | rfl
      · obtain ⟨j, h2, h3⟩ := pick_of n m h1
        exact ⟨j, by omega, h3⟩
      · exact ⟨n, by omega, hn, rfl⟩
    | false =>
      rw [cnt_no hn] at h
      obtain ⟨j, h2, h3⟩ := pick_of n m h
      exact ⟨j, by omega, h3⟩
end
/-- An instruction with its jumps as far as what is left lies. -/
def mv (p : Nat → Nat) (i : Ins) (a : Nat) : Ins :=
  if i.c % 8 ≠ 5 then i else if i.c = 5 then ⟨i.c, i.t, i.f, p (a + 1 + i.k) - p a - 1⟩ else ⟨i.c, p (a + 1 + i.t) - p a - 1, p (a + 1 + i.f) - p a - 1, i.k⟩
def at0 (l : List Ins) (a : Nat) : Ins := l.getD a ⟨0, 0, 0, 0⟩
theorem at0_of {l : List Ins} {a : Nat} {i : Ins} (h : l[a]? = some i) : at0 l a = i := by unfold at0; rw [List.getD_eq_getElem?_getD, h]; rfl
def rb (l : List Ins) (a : Nat) : Bool := (rc l).getD a false
def stripL (l : List Ins) : List Ins := pick (rb l) (fun a => mv (cnt (rb l)) (at0 l a) a) l.length
theorem mv_c (p : Nat → Nat) (i : Ins) (a : Nat) : (mv p i a).c = i.c := by
  unfold mv
  split
  · rfl
  · split <;> rfl
theorem mv_same {p : Nat → Nat} {i : Ins} {a : Nat} (h : i.c % 8 ≠ 5) : mv p i a = i := by unfold mv; rw [if_pos h]
theorem mv_rel {p : Nat → Nat} {i : Ins} {a : Nat} (h : i.c % 8 = 5) : rel (mv p i a) = (rel i).map fun d => p (a + 1 + d) - p a - 1 := by
  unfold mv rel
  by_cases h5 : i.c = 5
  · simp [h5]
  · simp [h5, h]
theorem not_jump {c : Nat} (h : c = 32 ∨ c = 96 ∨ c = 97 ∨ c = 2 ∨ c = 3) : c % 8 ≠ 5 := by omega
theorem mv_k {p : Nat → Nat} {i : Ins} {a : Nat} (h : i.c ≠ 5) : (mv p i a).k = i.k := by
  unfold mv
  split
  · rfl
  · first | rfl | rw [if_neg h]
theorem mv_range {p : Nat → Nat} {i : Ins} {a : Nat} (h : rangeB i = true) : rangeB (mv p i a) = true := by
  by_cases h5 : i.c = 5
  · unfold rangeB
    rw [mv_c, h5]; rfl
  · unfold rangeB at *
    rw [mv_c, mv_k h5]; exact h
theorem mv_puts {p : Nat → Nat} {i : Ins} {a : Nat} : puts (mv p i a) = puts i := by unfold puts; rw [mv_c]
theorem mv_takes {p : Nat → Nat} {i : Ins} {a : Nat} : takes (mv p i a) = takes i := by unfold takes; rw [mv_c]
theorem puts_ne {i : Ins} (h : puts i = true) : i.c ≠ 5 := by intro e; simp [puts, e] at h
theorem takes_ne {i : Ins} (h : takes i = true) : i.c ≠ 5 := by intro e; simp [takes, e] at h
theorem g0 {l : List Ins} (g : Good l) : rb l 0 = true := by
  have := g.pos
  exact (rc_iff (by omega)).2 .zero
theorem rb_lt {l : List Ins} (_g : Good l) {a : Nat} (h : rb l a = true) : a < l.length := by
  have := rc_len l
  rcases Nat.lt_or_ge a l.length with h1 | h1
  · exact h1
  · unfold rb at h
    rw [List.getD_eq_getElem?_getD, List.getElem?_eq_none (by omega)] at h
    simp at h
theorem rb_way {l : List Ins} (g : Good l) {a to : Nat} {i : Ins} (h : rb l a = true) (hi : l[a]? = some i) (ht : to ∈ ways i a) : rb l to = true :=
  (rc_iff (g.inr a i hi to ht)).2 (.step ((rc_iff (rb_lt g h)).1 h) hi ht)
theorem len_strip {l : List Ins} (_g : Good l) : (stripL l).length = cnt (rb l) l.length := pick_len _
theorem strip_at {l : List Ins} (g : Good l) {a : Nat} {i : Ins} (h : rb l a = true) (hi : l[a]? = some i) : (stripL l)[cnt (rb l) a]? = some (mv (cnt (rb l)) i a) := by
  have := pick_at (g := fun a => mv (cnt (rb l)) (at0 l a) a) l.length a (rb_lt g h) h
  rw [at0_of hi] at this; exact this
/-- Each of what is left was there. -/
theorem strip_of {l : List Ins} (g : Good l) {m : Nat} {y : Ins} (h : (stripL l)[m]? = some y) : ∃ a i, rb l a = true ∧ l[a]? = some i ∧ cnt (rb l) a = m ∧ y = mv (cnt (rb l)) i a := by
  have hm := (List.getElem?_eq_some_iff.1 h).1
  rw [len_strip g] at hm
  obtain ⟨a, ha, hr, rfl⟩ := pick_of _ _ hm
  have hi : l[a]? = some l[a] := List.getElem?_eq_getElem ha
  rw [strip_at g hr hi] at h
  exact ⟨a, _, hr, hi, rfl, (Option.some.inj h).symm⟩
/-- Its ways are those of what was there. -/
theorem strip_ways {l : List Ins} (_g : Good l) {a : Nat} {i : Ins} (h : rb l a = true) (_hi : l[a]? = some i) : ways (mv (cnt (rb l)) i a) (cnt (rb l) a) = (ways i a).map (cnt (rb l)) := by
  have hc := cnt_yes h
  unfold ways
  by_cases h5 : i.c % 8 = 5
  · rw [mv_rel h5, List.map_map, List.map_map]
    refine List.map_congr_left fun d _ => ?_
    have := cnt_mono (R := rb l) (show a + 1 ≤ a + 1 + d by omega)
    simp only [Function.comp]
    omega
  · rw [mv_same h5]
    by_cases h6 : i.c % 8 = 6
    · simp [rel, h6]
    · simp [rel, h5, h6, hc]
theorem strip_good {l : List Ins} (g : Good l) : Good (stripL l) := by
  have hlen := len_strip g
  have hr0 := g0 g
  have hl := g.pos
  have hpos : 0 < (stripL l).length := by rw [hlen]; have := cnt_lt hr0 hl; omega
  refine ⟨hpos, by rw [hlen]; have := cnt_le (R := rb l) l.length; have := g.many; omega, ?_, ?_, ?_⟩
  · intro m y hy
    obtain ⟨a, i, hr, hi, rfl, rfl⟩ := strip_of g hy
    obtain ⟨h1, h2, h3⟩ := alone_zero.1 (g.each a i hi)
    refine alone_zero.2 ⟨by rw [mv_c]; exact h1, ?_, mv_range h3⟩
    unfold jumpB
    rw [mv_c]
    by_cases h5 : i.c % 8 = 5
    · simp only [h5, bne_self_eq_false, Bool.false_or, List.all_eq_true, decide_eq_true_eq]
      intro d hd
      have hw : cnt (rb l) a + 1 + d ∈ ways (mv (cnt (rb l)) i a) (cnt (rb l) a) := List.mem_map.2 ⟨d, hd, rfl⟩
      rw [strip_ways g hr hi] at hw
      obtain ⟨to, hto, he⟩ := List.mem_map.1 hw
      have := cnt_lt (rb_way g hr hi hto) (g.inr a i hi to hto)
      rw [hlen]
      omega
    · simp [h5]
  · intro y hy
    obtain ⟨a, i, hr, hi, hm, rfl⟩ := strip_of g hy
    rw [mv_c]
    refine Classical.byContradiction fun h6 => ?_
    have hex : ∃ to, to ∈ ways i a := by
      unfold ways rel
      rw [if_neg h6]
      split
      · exact ⟨_, List.mem_map.2 ⟨0, by simp, rfl⟩⟩
      · split
        · exact ⟨_, List.mem_map.2 ⟨i.k, by simp, rfl⟩⟩
        · exact ⟨_, List.mem_map.2 ⟨i.t, by simp, rfl⟩⟩
    obtain ⟨to, hto⟩ := hex
    have h1 := cnt_lt hr (ways_gt hto)
    have h2 := cnt_lt (rb_way g hr hi hto) (g.inr a i hi to hto)
    rw [hlen] at hm
    omega
  · intro m y hy ht hu
    obtain ⟨a, i, hr, hi, rfl, rfl⟩ := strip_of g hy
    rw [mv_takes] at ht
    rw [mv_k (takes_ne ht)] at hu
    have key : ∀ (b j : Nat), Un (stripL l) b j → ∀ a', rb l a' = true → cnt (rb l) a' = j → Un l b a' := by
      intro b j hu
      induction hu with
      | zero =>
        intro a' hr' ha'
        have : a' = 0 := cnt_inj hr' hr0 (by rw [ha']; rfl)
        subst this
        exact .zero
      | step h1 h2 h3 h4 ih =>
        intro a' hr' ha'
        obtain ⟨a2, i2, hr2, hi2, rfl, rfl⟩ := strip_of g h2
        have hu2 := ih a2 hr2 rfl
        rw [strip_ways g hr2 hi2] at h4
        obtain ⟨to, hto, he⟩ := List.mem_map.1 h4
        have : to = a' := cnt_inj (rb_way g hr2 hi2 hto) hr' (by rw [he, ha'])
        subst this
        refine .step hu2 hi2 (fun ⟨hp, hk⟩ => h3 ⟨by rw [mv_puts]; exact hp, ?_⟩) hto
        rw [mv_k (puts_ne hp)]; exact hk
    exact g.scr a i hi ht (key _ _ hu a hr rfl)
theorem strip_lg {l : List Ins} (g : Good l) : ∀ (d a : Nat), l.length - a ≤ d → rb l a = true → lg (stripL l) (cnt (rb l) a) = lg l a
  | 0, a, hd, hr => by have := rb_lt g hr; omega
  | d + 1, a, hd, hr => by
    have ha := rb_lt g hr
    have hi : l[a]? = some l[a] := List.getElem?_eq_getElem ha
    rw [lg_step (strip_at g hr hi), lg_step hi, strip_ways g hr hi, List.map_map]
    congr 2
    refine List.map_congr_left fun to hto => ?_
    have h1 := ways_gt hto
    exact strip_lg g d to (by omega) (rb_way g hr hi hto)
theorem strip_longest {l : List Ins} (g : Good l) : lg (stripL l) 0 = lg l 0 := by
  have := strip_lg g (l.length - 0) 0 (Nat.le_refl _) (g0 g)
  exact this
theorem strip_reach {l : List Ins} (g : Good l) : ∀ m, m < (stripL l).length → rb (stripL l) m = true := by
  have key : ∀ a, Reach l a → Reach (stripL l) (cnt (rb l) a) := by
    intro a h
    induction h with
    | zero => exact .zero
    | step h1 h2 h3 ih =>
      have hr : rb l _ = true := (rc_iff (List.getElem?_eq_some_iff.1 h2).1).2 h1
      refine .step ih (strip_at g hr h2) ?_
      rw [strip_ways g hr h2]
      exact List.mem_map.2 ⟨_, h3, rfl⟩
  intro m hm
  obtain ⟨a, ha, hr, rfl⟩ := pick_of _ _ (by rw [len_strip g] at hm; exact hm)
  exact (rc_iff hm).2 (key a ((rc_iff ha).1 hr))
theorem cnt_all {R : Nat → Bool} : ∀ (n : Nat), (∀ m, m < n → R m = true) → cnt R n = n
  | 0, _ => rfl
  | n + 1, h => by rw [cnt_yes (h n (by omega)), cnt_all n fun m hm => h m (by omega)]
theorem strip_again {l : List Ins} (g : Good l) : (stripL (stripL l)).length = (stripL l).length := by
  rw [len_strip (strip_good g), cnt_all _ (strip_reach g)]
/-! More behind. -/
def ret (k : Nat) : Ins := ⟨6, 0, 0, k⟩
theorem rel_ret (k : Nat) : rel (ret k) = [] := rfl
theorem behind_at {l : List Ins} {k a : Nat} {i : Ins} (h : (l ++ [ret k])[a]? = some i) : (a < l.length ∧ l[a]? = some i) ∨ (a = l.length ∧ i = ret k) := by
  by_cases ha : a < l.length
  · rw [List.getElem?_append_left ha] at h; exact .inl ⟨ha, h⟩
  · rw [List.getElem?_append_right (by omega)] at h
    have h0 := (List.getElem?_eq_some_iff.1 h).1
    have : a - l.length = 0 := by simpa using h0
    rw [this] at h
    exact .inr ⟨by omega, (Option.some.inj h).symm⟩
theorem behind_un {l : List Ins} {b k j : Nat} (h : Un (l ++ [ret k]) b j) : Un l b j := by
  induction h with
  | zero => exact .zero
  | step h1 h2 h3 h4 ih =>
    rcases behind_at h2 with ⟨h5, h6⟩ | ⟨_, rfl⟩
    · exact .step ih h6 h3 h4
    · simp [ways, rel_ret] at h4
theorem jump_more {i : Ins} {n m : Nat} (h : jumpB i n = true) (hm : n ≤ m) : jumpB i m = true := by
  unfold jumpB at *
  simp only [Bool.or_eq_true, List.all_eq_true, decide_eq_true_eq] at *
  rcases h with h | h
  · exact .inl h
  · exact .inr fun d hd => Nat.lt_of_lt_of_le (h d hd) hm
theorem alone_ret (k n : Nat) : alone (ret k) n = 0 := alone_zero.2 ⟨rfl, rfl, rfl⟩
theorem behind_good {l : List Ins} (g : Good l) (k : Nat) (hm : l.length < 4096) : Good (l ++ [ret k]) := by
  refine ⟨by simp, by simp; omega, ?_, ?_, ?_⟩
  · intro a i hi
    rcases behind_at hi with ⟨h5, h6⟩ | ⟨_, rfl⟩
    · obtain ⟨h1, h2, h3⟩ := alone_zero.1 (g.each a i h6)
      exact alone_zero.2 ⟨h1, jump_more h2 (by simp; omega), h3⟩
    · exact alone_ret _ _
  · intro i hi
    rcases behind_at hi with ⟨h5, h6⟩ | ⟨_, rfl⟩
    · simp at h5
    · rfl
  · intro a i hi ht hu
    rcases behind_at hi with ⟨h5, h6⟩ | ⟨_, rfl⟩
    · exact g.scr a i h6 ht (behind_un hu)
    · simp [takes, ret] at ht
theorem behind_lg {l : List Ins} (g : Good l) (k : Nat) : ∀ (d a : Nat), l.length - a ≤ d → a < l.length → lg (l ++ [ret k]) a = lg l a
  | 0, a, hd, ha => by omega
  | d + 1, a, hd, ha => by
    have hi : l[a]? = some l[a] := List.getElem?_eq_getElem ha
    have hi2 : (l ++ [ret k])[a]? = some l[a] := by rw [List.getElem?_append_left ha]; exact hi
    rw [lg_step hi2, lg_step hi]
    congr 2
    refine List.map_congr_left fun to hto => ?_
    have h1 := ways_gt hto
    exact behind_lg g k d to (by omega) (g.inr a _ hi to hto)
theorem behind_longest {l : List Ins} (g : Good l) (k : Nat) : lg (l ++ [ret k]) 0 = lg l 0 := behind_lg g k _ 0 (Nat.le_refl _) g.pos
/-! More ahead. -/
def cond (k : Nat) : Ins := ⟨21, 0, 1, k⟩
theorem ahead_longest (l : List Ins) (k : Nat) : lg (cond k :: ret k :: l) 0 = 1 + max 1 (lg l 0) := by
  have h : lg (cond k :: ret k :: l) 0 = max 1 (max ((lgl l).getD 0 0) 0) + 1 := by simp [lg, lgl, rel, cond, ret, maxl]
  rw [h]
  show _ = 1 + max 1 ((lgl l).getD 0 0)
  omega
theorem ahead_at {l : List Ins} {k a : Nat} {i : Ins} (h : (cond k :: ret k :: l)[a]? = some i) : (a = 0 ∧ i = cond k) ∨ (a = 1 ∧ i = ret k) ∨ ∃ b, a = b + 2 ∧ l[b]? = some i := by
  match a, h with
  | 0, h => exact .inl ⟨rfl, (Option.some.inj h).symm⟩
  | 1, h => exact .inr (.inl ⟨rfl, (Option.some.inj h).symm⟩)
  | b + 2, h => exact .inr (.inr ⟨b, rfl, h⟩)
theorem ahead_un {l : List Ins} {b k j : Nat} (h : Un (cond k :: ret k :: l) b j) : ∀ a, j = a + 2 → Un l b a := by
  induction h with
  | zero => intro a ha; omega
  | @step j' i' to h1 h2 h3 h4 ih =>
    intro a ha
    rcases ahead_at h2 with ⟨rfl, rfl⟩ | ⟨rfl, rfl⟩ | ⟨b2, rfl, h5⟩
    · have : to = 1 ∨ to = 2 := by simpa [ways, rel, cond] using h4
      obtain rfl : a = 0 := by omega
      exact .zero
    · simp [ways, rel_ret] at h4
    · refine .step (ih b2 rfl) h5 h3 ?_
      obtain ⟨d, hd, he⟩ := List.mem_map.1 h4
      exact List.mem_map.2 ⟨d, hd, by omega⟩
theorem ahead_good {l : List Ins} (g : Good l) (k : Nat) (hm : l.length < 4095) : Good (cond k :: ret k :: l) := by
  have hp := g.pos
  refine ⟨by simp, by simp; omega, ?_, ?_, ?_⟩
  · intro a i hi
    rcases ahead_at hi with ⟨rfl, rfl⟩ | ⟨rfl, rfl⟩ | ⟨b2, rfl, h5⟩
    · refine alone_zero.2 ⟨rfl, ?_, rfl⟩
      simp [jumpB, rel, cond]
      exact hp
    · exact alone_ret _ _
    · have := g.each b2 i h5
      simpa using this
  · intro i hi
    rcases ahead_at hi with ⟨h1, _⟩ | ⟨h1, _⟩ | ⟨b2, h1, h5⟩
    · simp at h1
    · simp only [List.length_cons] at h1; omega
    · refine g.ends i ?_
      rw [show l.length - 1 = b2 by simp at h1; omega]; exact h5
  · intro a i hi ht hu
    rcases ahead_at hi with ⟨rfl, rfl⟩ | ⟨rfl, rfl⟩ | ⟨b2, rfl, h5⟩
    · simp [takes, cond] at ht
    · simp [takes, ret] at ht
    · exact g.scr b2 i h5 ht (ahead_un hu b2 rfl)
end Go.Proofs.Ytnkffjdoillmaaa

