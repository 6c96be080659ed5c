/- Runs of filters as plain functions: one step, a run, its traces; what holds of them. -/
import Derived.Test.YtnkffjdoillmaaaStripM
namespace Go.Proofs.Ytnkffjdoillmaaa
/-- What a run has come to: A, X, the scratch numbers, the next place. -/
structure Mc where
  a : Nat
  x : Nat
  m : List Nat
  nx : Nat
structure Mc.ok (s : Mc) : Prop where
  a : s.a < 4294967296
  x : s.x < 4294967296
  m : s.m.length = 16
  ms : ∀ j, s.m.getD j 0 < 4294967296
def opd (i : Ins) (s : Mc) : Nat := if i.c / 8 % 2 = 1 then s.x else i.k
def ldN (W : Nat → Nat) (i : Ins) (m : List Nat) : Nat := if i.c / 32 = 1 then W i.k else if i.c / 32 = 3 then m.getD i.k 0 else if i.c / 32 = 4 then 64 else i.k
def reckN (op a n : Nat) : Nat :=
  if op = 0 then (a + n) % 4294967296 else if op = 1 then (a + 4294967296 - n) % 4294967296 else if op = 2 then a * n % 4294967296 else if op = 3 then a / n
  else if op = 4 then a ||| n else if op = 5 then a &&& n else if op = 6 then a * 2 ^ (n % 32) % 4294967296 else if op = 7 then a / 2 ^ (n % 32)
  else if op = 8 then (4294967296 - a) % 4294967296 else a ^^^ n
def holdsN (op a n : Nat) : Bool := if op = 1 then decide (a = n) else if op = 2 then decide (n < a) else if op = 3 then decide (n ≤ a) else a &&& n != 0
def farN (i : Ins) (s : Mc) : Nat := if i.c / 16 = 0 then i.k else if holdsN (i.c / 16) s.a (opd i s) = true then i.t else i.f
/-- One step; the action, if the run ends there. -/
def stepN (W : Nat → Nat) (i : Ins) (s : Mc) : Mc × Option Nat :=
  if i.c % 8 = 0 then ({ s with a := ldN W i s.m, nx := s.nx + 1 }, none)
  else if i.c % 8 = 1 then ({ s with x := ldN W i s.m, nx := s.nx + 1 }, none)
  else if i.c % 8 = 2 then ({ s with m := s.m.set i.k s.a, nx := s.nx + 1 }, none)
  else if i.c % 8 = 3 then ({ s with m := s.m.set i.k s.x, nx := s.nx + 1 }, none)
  else if i.c % 8 = 4 then
    if i.c / 16 = 3 ∧ opd i s = 0 then ({ s with nx := s.nx + 1 }, some 0) else ({ s with a := reckN (i.c / 16) s.a (opd i s), nx := s.nx + 1 }, none)
  else if i.c % 8 = 5 then ({ s with nx := s.nx + 1 + farN i s }, none)
  else if i.c % 8 = 6 then ({ s with nx := s.nx + 1 }, some (if i.c = 22 then s.a else i.k))
  else if i.c = 7 then ({ s with x := s.a, nx := s.nx + 1 }, none) else ({ s with a := s.x, nx := s.nx + 1 }, none)
/-- So many steps at most: each step's place, A and X behind it; the action. -/
def exec (W : Nat → Nat) (l : List Ins) : Nat → Mc → List (Nat × Nat × Nat) × Nat
  | 0, _ => ([], 2147483648)
  | n + 1, s => match l[s.nx]? with
    | none => ([], 2147483648)
    | some i => match stepN W i s with
      | (s', some r) => ([(s.nx, s'.a, s'.x)], r)
      | (s', none) => ((s.nx, s'.a, s'.x) :: (exec W l n s').1, (exec W l n s').2)
def mc0 : Mc := ⟨0, 0, List.replicate 16 0, 0⟩
def runN (W : Nat → Nat) (l : List Ins) : List (Nat × Nat × Nat) × Nat := exec W l l.length mc0
theorem step_nx (W : Nat → Nat) (i : Ins) (s : Mc) : s.nx < (stepN W i s).1.nx := by
  unfold stepN
  repeat' split
  all_goals (dsimp only; omega)
theorem exec_fuel (W : Nat → Nat) (l : List Ins) : ∀ (n m : Nat) (s : Mc), l.length - s.nx ≤ n → l.length - s.nx ≤ m → exec W l n s = exec W l m s
  | 0, 0, s, _, _ => rfl
  | 0, m + 1, s, h, _ => by
    have : l[s.nx]? = none := List.getElem?_eq_none (by omega)
    simp [exec, this]
  | n + 1, 0, s, _, h => by
    have : l[s.nx]? = none := List.getElem?_eq_none (by omega)
    simp [exec, this]
  | n + 1, m + 1, s, h1, h2 => by
    have hn := step_nx W
    simp only [exec]
    cases hi : l[s.nx]? with
    | none => rfl
    | some i =>
      have := hn i s
      dsimp only
      rcases hs : stepN W i s with ⟨s', _ | r⟩
      · rw [hs] at this
        dsimp only at this ⊢
        rw [exec_fuel W l n m s' (by omega) (by omega)]
      · rfl
/-- A run from here on. -/
def rest (W : Nat → Nat) (l : List Ins) (s : Mc) : List (Nat × Nat × Nat) × Nat := exec W l (l.length - s.nx) s
theorem run_rest (W : Nat → Nat) (l : List Ins) : runN W l = rest W l mc0 := rfl
theorem rest_end {W : Nat → Nat} {l : List Ins} {s : Mc} (h : l.length ≤ s.nx) : rest W l s = ([], 2147483648) := by
  unfold rest; rw [show l.length - s.nx = 0 by omega]; rfl
theorem rest_some {W : Nat → Nat} {l : List Ins} {s s' : Mc} {i : Ins} {r : Nat} (hi : l[s.nx]? = some i) (hs : stepN W i s = (s', some r)) : rest W l s = ([(s.nx, s'.a, s'.x)], r) := by
  have hl := (List.getElem?_eq_some_iff.1 hi).1
  unfold rest
  obtain ⟨n, hn⟩ : ∃ n, l.length - s.nx = n + 1 := ⟨l.length - s.nx - 1, by omega⟩
  rw [hn]
  simp [exec, hi, hs]
theorem rest_none {W : Nat → Nat} {l : List Ins} {s s' : Mc} {i : Ins} (hi : l[s.nx]? = some i) (hs : stepN W i s = (s', none)) : rest W l s = ((s.nx, s'.a, s'.x) :: (rest W l s').1, (rest W l s').2) := by
  have hl := (List.getElem?_eq_some_iff.1 hi).1
  have hx := step_nx W i s
  rw [hs] at hx
  dsimp only at hx
  unfold rest
  obtain ⟨n, hn⟩ : ∃ n, l.length - s.nx = n + 1 := ⟨l.length - s.nx - 1, by omega⟩
  rw [hn]
  simp only [exec, hi, hs]
  rw [exec_fuel W l n (l.length - s'.nx) s' (by omega) (by omega)]
/-- What has been told so far, and what is still to come. -/
def Live (W : Nat → Nat) (l : List Ins) (ts : List (Nat × Nat × Nat)) (s : Mc) : Prop := runN W l = (ts ++ (rest W l s).1, (rest W l s).2)
theorem live_0 (W : Nat → Nat) (l : List Ins) : Live W l [] mc0 := by unfold Live; rw [run_rest]; rfl
theorem live_none {W : Nat → Nat} {l : List Ins} {ts : List (Nat × Nat × Nat)} {s s' : Mc} {i : Ins} (h : Live W l ts s) (hi : l[s.nx]? = some i) (hs : stepN W i s = (s', none)) : Live W l (ts ++ [(s.nx, s'.a, s'.x)]) s' := by
  unfold Live at h ⊢; rw [h, rest_none hi hs]; simp
theorem live_some {W : Nat → Nat} {l : List Ins} {ts : List (Nat × Nat × Nat)} {s s' : Mc} {i : Ins} {r : Nat} (h : Live W l ts s) (hi : l[s.nx]? = some i) (hs : stepN W i s = (s', some r)) : runN W l = (ts ++ [(s.nx, s'.a, s'.x)], r) := by
  unfold Live at h; rw [h, rest_some hi hs]
theorem live_out {W : Nat → Nat} {l : List Ins} {ts : List (Nat × Nat × Nat)} {s : Mc} (h : Live W l ts s) (hl : l.length ≤ s.nx) : runN W l = (ts, 2147483648) := by
  unfold Live at h; rw [h, rest_end hl]; simp
theorem rest_len (W : Nat → Nat) (l : List Ins) : ∀ (n : Nat) (s : Mc), (exec W l n s).1.length ≤ n
  | 0, s => by simp [exec]
  | n + 1, s => by
    simp only [exec]
    cases l[s.nx]? with
    | none => simp
    | some i =>
      dsimp only
      rcases hs : stepN W i s with ⟨s', _ | r⟩
      · have := rest_len W l n s'
        simp; omega
      · simp
theorem run_len (W : Nat → Nat) (l : List Ins) : (runN W l).1.length ≤ l.length := rest_len W l _ _
/-- The next place is one of the ways. -/
theorem step_ways {W : Nat → Nat} {i : Ins} {s s' : Mc} (hk : knownB i.c = true) (h : stepN W i s = (s', none)) : s'.nx ∈ ways i s.nx := by
  have hc : i.c ∈ codesL := by simpa [knownB] using hk
  unfold stepN at h
  unfold ways rel
  by_cases h6 : i.c % 8 = 6
  · simp [h6] at h
  by_cases h5 : i.c % 8 = 5
  · simp only [h5] at h ⊢
    simp at h
    subst h
    have e : i.c / 16 = 0 ↔ i.c = 5 := by
      simp only [codesL, List.mem_cons, List.not_mem_nil, or_false] at hc
      omega
    unfold farN
    by_cases e5 : i.c = 5
    · simp [e5]
    · rw [if_neg (fun x => e5 (e.1 x))]
      simp [e5]
      by_cases hh : holdsN (i.c / 16) s.a (opd i s) = true <;> simp [hh]
  · have hx : s'.nx = s.nx + 1 := by
      simp only [h5, h6, if_false] at h
      repeat' split at h
      all_goals (first | (cases h; rfl) | cases h)
    simp [h6, h5, hx]
theorem mem_maxl {l : List Nat} {x : Nat} (h : x ∈ l) : x ≤ maxl l := by
  induction l with
  | nil => simp at h
  | cons y l ih =>
    simp only [List.mem_cons] at h
    simp only [maxl, List.foldr_cons]
    rcases h with rfl | h
    · omega
    · have := ih h; simp only [maxl] at this; omega
theorem exec_lg {W : Nat → Nat} {l : List Ins} (g : Good l) : ∀ (n : Nat) (s : Mc), (exec W l n s).1.length ≤ lg l s.nx
  | 0, s => by simp [exec]
  | n + 1, s => by
    simp only [exec]
    cases hi : l[s.nx]? with
    | none => simp
    | some i =>
      have hl := lg_step hi
      have hk := (alone_zero.1 (g.each _ _ hi)).1
      dsimp only
      rcases hs : stepN W i s with ⟨s', _ | r⟩
      · have := exec_lg g (W := W) n s'
        have hw := step_ways hk hs
        have := mem_maxl (List.mem_map_of_mem (f := lg l) hw)
        simp; omega
      · simp; omega
theorem run_lg {W : Nat → Nat} {l : List Ins} (g : Good l) : (runN W l).1.length ≤ lg l 0 := exec_lg g _ _
/-- Numbers stay numbers of thirty-two bits. -/
theorem getD_set0 (l : List Nat) (k j v : Nat) : (l.set k v).getD j 0 = if j = k ∧ k < l.length then v else l.getD j 0 := getD_set l k j v 0
theorem reck_lt {op a n : Nat} (ha : a < 4294967296) (hn : n < 4294967296) : reckN op a n < 4294967296 := by
  unfold reckN
  have h1 : a ||| n < 2 ^ 32 := Nat.or_lt_two_pow (by omega) (by omega)
  have h2 : a &&& n < 2 ^ 32 := Nat.and_lt_two_pow _ (by omega)
  have h3 : a ^^^ n < 2 ^ 32 := Nat.xor_lt_two_pow (by omega) (by omega)
  have h4 : a / n ≤ a := Nat.div_le_self _ _
  have h5 : a / 2 ^ (n % 32) ≤ a := Nat.div_le_self _ _
  repeat' split
  all_goals omega
theorem opd_lt {i : Ins} {s : Mc} (hs : s.ok) (hk : i.k < 4294967296) : opd i s < 4294967296 := by
  unfold opd; split
  · exact hs.x
  · exact hk
theorem ld_lt {W : Nat → Nat} {i : Ins} {s : Mc} (hW : ∀ k, W k < 4294967296) (hs : s.ok) (hk : i.k < 4294967296) : ldN W i s.m < 4294967296 := by
  unfold ldN
  have := hW i.k
  have := hs.ms i.k
  repeat' split
  all_goals omega
theorem step_ok {W : Nat → Nat} {i : Ins} {s : Mc} (hW : ∀ k, W k < 4294967296) (hs : s.ok) (hk : i.k < 4294967296) : (stepN W i s).1.ok := by
  have h1 := ld_lt hW hs hk
  have h2 := opd_lt hs hk
  have h3 := fun op => reck_lt (op := op) hs.a h2
  obtain ⟨ha, hx, hm, hms⟩ := hs
  unfold stepN
  repeat' split
  all_goals (refine ⟨?_, ?_, ?_, ?_⟩ <;> dsimp only <;> first | assumption | exact h1 | exact h3 _ | (simp only [List.length_set]; exact hm) | (intro j; rw [getD_set0]; split <;> first | assumption | exact hms j))
theorem mc0_ok : mc0.ok := ⟨by decide, by decide, rfl, fun j => by simp only [mc0, List.getD_eq_getElem?_getD, List.getElem?_replicate]; split <;> decide⟩
theorem act_lt {W : Nat → Nat} {i : Ins} {s s' : Mc} {r : Nat} (h : stepN W i s = (s', some r)) (hs : s.ok) (hk : i.k < 4294967296) : r < 4294967296 := by
  have := hs.a
  unfold stepN at h
  repeat' split at h
  all_goals (cases h <;> first | omega | (split <;> omega))
end Go.Proofs.Ytnkffjdoillmaaa
