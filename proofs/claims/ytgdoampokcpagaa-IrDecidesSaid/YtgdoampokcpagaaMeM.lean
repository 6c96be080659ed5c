/- What a policy says of a call, by lists alone: which conditions hold, which rules speak of it, which of them counts. -/
import Derived.Test.YtgdoampokcpagaaGx
import Derived.Test.YtgdoampokcpagaaGc
namespace Go.Proofs.Ytgdoampokcpagaa.Me
/-- A call as a filter sees it. -/
structure RcM where
  num : Nat
  arch : Nat
  at_ : Nat
  a0 : Nat
  a1 : Nat
  a2 : Nat
  a3 : Nat
  a4 : Nat
  a5 : Nat
def RcM.args (x : RcM) : List Nat := [x.a0, x.a1, x.a2, x.a3, x.a4, x.a5]
def RcM.cells (x : RcM) : List Value := [.int .u32 x.num, .int .u32 x.arch, .int .u64 x.at_, .int .u64 x.a0, .int .u64 x.a1, .int .u64 x.a2, .int .u64 x.a3, .int .u64 x.a4, .int .u64 x.a5]
def RcM.seen (x : RcM) : List Value := [.int .u32 x.num, .int .u32 x.arch, .int .u64 x.a0, .int .u64 x.a1, .int .u64 x.a2, .int .u64 x.a3, .int .u64 x.a4, .int .u64 x.a5]
structure RcM.ok (x : RcM) : Prop where
  num : x.num < 4294967296
  arch : x.arch < 4294967296
  at_ : x.at_ < 18446744073709551616
  a0 : x.a0 < 18446744073709551616
  a1 : x.a1 < 18446744073709551616
  a2 : x.a2 < 18446744073709551616
  a3 : x.a3 < 18446744073709551616
  a4 : x.a4 < 18446744073709551616
  a5 : x.a5 < 18446744073709551616
def RcM.arg (x : RcM) (k : Nat) : Nat := x.args.getD k 0
theorem six {k : Nat} (h : k < 6) : k = 0 ∨ k = 1 ∨ k = 2 ∨ k = 3 ∨ k = 4 ∨ k = 5 := by omega
theorem RcM.arg_cell (x : RcM) {k : Nat} (h : k < 6) : x.cells[3 + k]? = some (.int .u64 (x.arg k)) := by
  rcases six h with rfl | rfl | rfl | rfl | rfl | rfl <;> rfl
theorem RcM.arg_seen (x : RcM) {k : Nat} (h : k < 6) : x.seen[2 + k]? = some (.int .u64 (x.arg k)) := by
  rcases six h with rfl | rfl | rfl | rfl | rfl | rfl <;> rfl
theorem RcM.ok.arg {x : RcM} (h : x.ok) {k : Nat} (hk : k < 6) : x.arg k < 18446744073709551616 := by
  rcases six hk with rfl | rfl | rfl | rfl | rfl | rfl
  · exact h.a0
  · exact h.a1
  · exact h.a2
  · exact h.a3
  · exact h.a4
  · exact h.a5
/-- Does a number fit a condition? -/
def opB (op mask val a : Nat) : Bool :=
  if op = 1 then decide (a = val) else if op = 2 then decide (a ≠ val) else if op = 3 then decide (a < val) else if op = 4 then decide (a ≤ val)
  else if op = 5 then decide (val < a) else if op = 6 then decide (val ≤ a) else if op = 7 then decide (a &&& mask = val) else false
def holdB (c : CondM) (x : RcM) : Bool := if c.arg < 0 ∨ 5 < c.arg then false else opB c.op c.mask c.val (x.arg c.arg.toNat)
def matB (r : RuleM) (x : RcM) : Bool := decide (r.num = x.num) && r.conds.all fun c => holdB c x
/-- Which rules speak of it; which of them counts, with its action. -/
def idxL (x : RcM) : Nat → List RuleM → List Nat
  | _, [] => []
  | i, r :: t => if matB r x then i :: idxL x (i + 1) t else idxL x (i + 1) t
def stepB (x : RcM) (i : Nat) (r : RuleM) (b : Option (Nat × Nat)) : Option (Nat × Nat) :=
  if matB r x then (match b with | none => some (i, r.act) | some y => if Rec.strN y.2 < Rec.strN r.act then some (i, r.act) else some y) else b
def bestL (x : RcM) : Nat → List RuleM → Option (Nat × Nat) → Option (Nat × Nat)
  | _, [], b => b
  | i, r :: t, b => bestL x (i + 1) t (stepB x i r b)
def bestI : Option (Nat × Nat) → Int
  | none => -1
  | some y => y.1
def bestA (d : Nat) : Option (Nat × Nat) → Nat
  | none => d
  | some y => y.2
def best (p : PolM) (x : RcM) : Option (Nat × Nat) := bestL x 0 p.rules none
def saysB (p : PolM) (x : RcM) : Nat := if x.arch = 3221225534 then bestA p.dflt (best p x) else 2147483648
def allB (l : List PolM) (x : RcM) : Nat := l.foldr (fun p a => Rec.stg a (saysB p x)) 2147418112
/-- Where the best one stands. -/
def BOk (rules : List RuleM) (k : Nat) (b : Option (Nat × Nat)) : Prop := ∀ y, b = some y → y.1 < k ∧ ∃ r, rules[y.1]? = some r ∧ r.act = y.2
theorem BOk.step {rules : List RuleM} {k : Nat} {b : Option (Nat × Nat)} (h : BOk rules k b) {r : RuleM} (hr : rules[k]? = some r) (x : RcM) : BOk rules (k + 1) (stepB x k r b) := by
  intro y hy
  unfold stepB at hy
  split at hy
  · split at hy
    · cases hy; exact ⟨by simp, r, hr, rfl⟩
    · split at hy
      · cases hy; exact ⟨by simp, r, hr, rfl⟩
      · cases hy
        obtain ⟨h1, h2⟩ := h y rfl
        exact ⟨by omega, h2⟩
  · obtain ⟨h1, h2⟩ := h y hy
    exact ⟨by omega, h2⟩
theorem BOk.nil (rules : List RuleM) : BOk rules 0 none := fun y hy => by cases hy
theorem best_end (x : RcM) {rules : List RuleM} {k : Nat} (h : rules.length ≤ k) (i : Nat) (b : Option (Nat × Nat)) : bestL x i (rules.drop k) b = b := by
  rw [List.drop_eq_nil_of_le h]; rfl
theorem best_on (x : RcM) {rules : List RuleM} {k : Nat} {r : RuleM} (h : rules[k]? = some r) (b : Option (Nat × Nat)) : bestL x k (rules.drop k) b = bestL x (k + 1) (rules.drop (k + 1)) (stepB x k r b) := by
  obtain ⟨h1, h2⟩ := List.getElem?_eq_some_iff.1 h
  rw [List.drop_eq_getElem_cons h1, h2, bestL]
theorem idx_app (x : RcM) : ∀ (a b : List RuleM) (i : Nat), idxL x i (a ++ b) = idxL x i a ++ idxL x (i + a.length) b
  | [], b, i => by simp [idxL]
  | r :: a, b, i => by
    rw [List.cons_append, idxL, idxL, idx_app x a b (i + 1)]
    split <;> simp [Nat.add_comm, Nat.add_left_comm]
theorem idx_take (x : RcM) {rules : List RuleM} {k : Nat} {r : RuleM} (h : rules[k]? = some r) : idxL x 0 (rules.take (k + 1)) = idxL x 0 (rules.take k) ++ (if matB r x then [k] else []) := by
  obtain ⟨h1, h2⟩ := List.getElem?_eq_some_iff.1 h
  rw [List.take_succ_eq_append_getElem h1, h2, idx_app, List.length_take, Nat.min_eq_left (by omega), Nat.zero_add, idxL, idxL]
theorem idx_len (x : RcM) : ∀ (l : List RuleM) (i : Nat), (idxL x i l).length ≤ l.length
  | [], _ => Nat.le_refl _
  | r :: l, i => by
    have := idx_len x l (i + 1)
    unfold idxL
    split <;> simp <;> omega
theorem idx_lt (x : RcM) : ∀ (l : List RuleM) (i : Nat), ∀ j ∈ idxL x i l, j < i + l.length
  | [], _, j, h => by simp [idxL] at h
  | r :: l, i, j, h => by
    unfold idxL at h
    split at h
    · rcases List.mem_cons.1 h with rfl | h
      · simp
      · have := idx_lt x l (i + 1) j h; simp; omega
    · have := idx_lt x l (i + 1) j h; simp; omega
/-- What counts is the first of the strongest: said strength by strength. -/
def actsB (x : RcM) (l : List RuleM) : List Nat := (l.filter fun r => matB r x).map RuleM.act
theorem best_acts (x : RcM) : ∀ (l : List RuleM) (i : Nat) (b : Option (Nat × Nat)), (bestL x i l b).map (·.2) = match b.map (·.2) with | none => (match actsB x l with | [] => none | a :: t => some (t.foldl Rec.stg a)) | some a => some ((actsB x l).foldl Rec.stg a)
  | [], i, none => rfl
  | [], i, some b => rfl
  | r :: l, i, b => by
    rw [bestL, best_acts x l]
    unfold stepB actsB
    cases hm : matB r x with
    | false => rw [List.filter_cons_of_neg (by simpa using hm)]; rfl
    | true =>
      rw [List.filter_cons_of_pos (by simpa using hm)]
      cases b with
      | none => rfl
      | some y =>
        simp only [if_true, List.map_cons, List.foldl_cons, Option.map_some]
        by_cases h : Rec.strN y.2 < Rec.strN r.act
        · simp [Rec.stg, h]
        · simp [Rec.stg, h]
theorem best_fold (p : PolM) (x : RcM) : bestA p.dflt (best p x) = if actsB x p.rules = [] then p.dflt else Rec.foldS (actsB x p.rules) := by
  have h := best_acts x p.rules 0 none
  unfold best
  cases hb : bestL x 0 p.rules none with
  | none =>
    rw [hb] at h
    cases ha : actsB x p.rules with
    | nil => rfl
    | cons a t => rw [ha] at h; cases h
  | some y =>
    rw [hb] at h
    cases ha : actsB x p.rules with
    | nil => rw [ha] at h; cases h
    | cons a t =>
      rw [ha] at h
      rw [if_neg (by simp)]
      exact Option.some.inj h
/-- Rules of a strength, the first that speaks. -/
def firstS (x : RcM) (s : Nat) (l : List RuleM) : Option RuleM := l.find? fun r => decide (Rec.strN r.act = s) && matB r x
theorem first_acts (x : RcM) (s : Nat) (l : List RuleM) : (firstS x s l).map RuleM.act = (actsB x l).find? fun a => decide (Rec.strN a = s) := by
  induction l with
  | nil => rfl
  | cons r l ih =>
    unfold firstS actsB at *
    cases hm : matB r x with
    | false => rw [List.filter_cons_of_neg (by simpa using hm), List.find?_cons_of_neg (by simp [hm])]; exact ih
    | true =>
      rw [List.filter_cons_of_pos (by simpa using hm), List.map_cons]
      by_cases hs : Rec.strN r.act = s
      · rw [List.find?_cons_of_pos (by simp [hm, hs]), List.find?_cons_of_pos (by simp [hs])]; rfl
      · rw [List.find?_cons_of_neg (by simp [hs]), List.find?_cons_of_neg (by simp [hs])]; exact ih
theorem find_first {l : List Nat} (hn : l ≠ []) : l.find? (fun a => decide (Rec.strN a = Rec.strN (Rec.foldS l))) = some (Rec.foldS l) := by
  obtain ⟨j, h1, h2, _⟩ := Rec.foldS_first l hn
  rw [List.find?_eq_some_iff_append]
  refine ⟨by simp, l.take j, l.drop (j + 1), ?_, fun a ha => ?_⟩
  · obtain ⟨h3, h4⟩ := List.getElem?_eq_some_iff.1 h1
    rw [← h4]; simp
  · obtain ⟨i, hi⟩ := List.getElem?_of_mem ha
    obtain ⟨h3, h4⟩ := List.getElem?_eq_some_iff.1 hi
    rw [List.length_take] at h3
    rw [List.getElem?_take] at hi
    split at hi
    · have := h2 i a (by omega) hi
      simp; omega
    · cases hi
theorem find_above {l : List Nat} (hn : l ≠ []) {s : Nat} (h : Rec.strN (Rec.foldS l) < s) : l.find? (fun a => decide (Rec.strN a = s)) = none := by
  obtain ⟨j, _, _, h3⟩ := Rec.foldS_first l hn
  rw [List.find?_eq_none]
  intro a ha
  have := h3 a ha
  simp; omega
/-- The document's way: strength by strength. -/
theorem first_above (x : RcM) (p : PolM) {s : Nat} (h : ∀ a, bestL x 0 p.rules none = some a → Rec.strN a.2 < s) : firstS x s p.rules = none := by
  have h1 := first_acts x s p.rules
  have h2 := best_acts x p.rules 0 none
  cases ha : actsB x p.rules with
  | nil => rw [ha] at h1; simpa using h1
  | cons a t =>
    rw [ha] at h1 h2
    cases hb : bestL x 0 p.rules none with
    | none => rw [hb] at h2; cases h2
    | some y =>
      rw [hb] at h2
      have h3 : y.2 = Rec.foldS (a :: t) := Option.some.inj h2
      rw [find_above (l := a :: t) (by simp) (by rw [← h3]; exact h y hb)] at h1
      simpa using h1
theorem first_at (x : RcM) (p : PolM) {y : Nat × Nat} (h : bestL x 0 p.rules none = some y) : ∃ r, firstS x (Rec.strN y.2) p.rules = some r ∧ r.act = y.2 := by
  have h1 := first_acts x (Rec.strN y.2) p.rules
  have h2 := best_acts x p.rules 0 none
  rw [h] at h2
  cases ha : actsB x p.rules with
  | nil => rw [ha] at h2; cases h2
  | cons a t =>
    rw [ha] at h1 h2
    have h3 : y.2 = Rec.foldS (a :: t) := Option.some.inj h2
    rw [h3, find_first (l := a :: t) (by simp)] at h1
    rw [← h3] at h1
    cases hf : firstS x (Rec.strN y.2) p.rules with
    | none => rw [hf] at h1; cases h1
    | some r => rw [hf] at h1; exact ⟨r, rfl, Option.some.inj h1⟩
end Go.Proofs.Ytgdoampokcpagaa.Me

