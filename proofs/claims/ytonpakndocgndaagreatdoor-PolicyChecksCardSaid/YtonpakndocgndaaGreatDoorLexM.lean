/- Texts as words, by lists alone: what a policy's text is cut into. Nothing of the program. -/
import Derived.Test.YtonpakndocgndaaGreatDoorTxtM
namespace Go.Proofs.YtonpakndocgndaaGreatDoor
/-- A word: its kind (0 an end, 1 a name, 2 a number, 3 a path, 4 a sign), its text, its number, its place. -/
structure Tok where
  k : Nat
  t : Bs
  n : Nat
  line : Nat
  col : Nat
deriving DecidableEq
def isL (c : Nat) : Bool := decide (97 ≤ c) && decide (c ≤ 122)
def isD (c : Nat) : Bool := decide (48 ≤ c) && decide (c ≤ 57)
def isP (c : Nat) : Bool := c == 32 || (c == 9 || c == 13)
def prn (c : Nat) : Bool := decide (33 ≤ c) && (decide (c ≤ 126) && c != 35)
def sgn (c : Nat) : Bool := c == 61 || (c == 33 || (c == 60 || (c == 62 || c == 38)))
def begunB (c : Nat) : Nat := if isL c then 1 else if isD c then 2 else if c = 47 then 3 else 4
def hasB (k c : Nat) : Bool := if k = 1 then isL c || (isD c || (c == 45 || (c == 95 || c == 44))) else if k = 2 then isL c || isD c else if k = 3 then prn c else sgn c
def isSign (t : Bs) : Bool := decide (t = [61, 61]) || (decide (t = [33, 61]) || (decide (t = [60]) || (decide (t = [60, 61]) || (decide (t = [62]) || (decide (t = [62, 61]) || decide (t = [38]))))))
def valB (k : Nat) (t : Bs) : Nat × Nat :=
  if k = 2 then (match number t with | some n => (n, 0) | none => (0, 204))
  else if k = 3 then (0, if 120 < t.length then 36 else 0)
  else if k = 4 then (0, if isSign t then 0 else 202) else (0, 0)
def tw (p : Nat → Bool) (s : Bs) : Bs := s.takeWhile fun c => p c.toNat
def dw (p : Nat → Bool) (s : Bs) : Bs := s.dropWhile fun c => p c.toNat
/-- The next word: its kind, its text, how much stands ahead of it, what is left behind it. -/
def nextS (s : Bs) : Option (Nat × Bs × Nat × Bs) :=
  match dw isP s with
  | [] => none
  | c :: r => some (begunB c.toNat, tw (hasB (begunB c.toNat)) (c :: r), (tw isP s).length, dw (hasB (begunB c.toNat)) (c :: r))
/-- The words of a line's text, of which 'at' bytes are gone; where it isn't right, and why. -/
def lexF (ln : Nat) : Nat → Bs → Nat → List Tok × Nat × Nat
  | 0, _, _ => ([], 0, 0)
  | f + 1, s, at_ =>
    match nextS s with
    | none => ([], 0, 0)
    | some (k, t, g, r) =>
      if (valB k t).2 ≠ 0 then ([], at_ + g + 1, (valB k t).2)
      else (⟨k, t, (valB k t).1, ln, at_ + g + 1⟩ :: (lexF ln f r (at_ + g + t.length)).1, (lexF ln f r (at_ + g + t.length)).2)
/-- Where a text isn't right, and why. -/
structure Wr where
  l : Nat
  c : Nat
  e : Nat
deriving DecidableEq
def noW : Wr := ⟨0, 0, 0⟩
def endT (ln n : Nat) : Tok := ⟨0, [], 0, ln, n + 1⟩
/-- A line. -/
def lineR (ln n : Nat) (r : List Tok × Nat × Nat) : List Tok × Wr :=
  if r.2.2 ≠ 0 then ([], ⟨ln, r.2.1, r.2.2⟩) else if r.1 = [] then ([], noW) else (r.1 ++ [endT ln n], noW)
def lineB (ln : Nat) (s : Bs) : List Tok × Wr := lineR ln (cutH s).length (lexF ln ((cutH s).length + 1) (cutH s) 0)
def lexL : List Bs → Nat → List Tok → List Tok × Wr
  | [], _, acc => (acc, noW)
  | l :: ls, k, acc => if (lineB (k + 1) l).2 ≠ noW then ([], (lineB (k + 1) l).2) else lexL ls (k + 1) (acc ++ (lineB (k + 1) l).1)
def lexB (s : Bs) : List Tok × Wr := if 65536 < s.length then ([], ⟨0, 0, 36⟩) else lexL (lines s) 0 []
theorem tw_dw (p : Nat → Bool) (s : Bs) : tw p s ++ dw p s = s := List.takeWhile_append_dropWhile
theorem dw_drop (p : Nat → Bool) (s : Bs) : dw p s = s.drop (tw p s).length := by
  have h := tw_dw p s
  have : (tw p s ++ dw p s).drop (tw p s).length = dw p s := by simp
  rw [h] at this; exact this.symm
theorem tw_len (p : Nat → Bool) (s : Bs) : (tw p s).length ≤ s.length := by
  have := congrArg List.length (tw_dw p s)
  simp at this; omega
theorem tw_all (p : Nat → Bool) (s : Bs) : ∀ c ∈ tw p s, p c.toNat = true := by
  intro c hc
  unfold tw at hc
  induction s with
  | nil => simp at hc
  | cons a s ih =>
    rw [List.takeWhile_cons] at hc
    split at hc
    · rcases List.mem_cons.1 hc with rfl | hc
      · assumption
      · exact ih hc
    · simp at hc
theorem tw_app (p : Nat → Bool) (a b : Bs) (h : ∀ c ∈ a, p c.toNat = true) (hb : ∀ c, b.head? = some c → p c.toNat = false) : tw p (a ++ b) = a ∧ dw p (a ++ b) = b := by
  unfold tw dw
  induction a with
  | nil =>
    cases b with
    | nil => simp
    | cons c b => have := hb c rfl; simp [this]
  | cons x a ih =>
    have h1 := h x (by simp)
    obtain ⟨i1, i2⟩ := ih (fun c hc => h c (by simp [hc]))
    rw [List.cons_append, List.takeWhile_cons, List.dropWhile_cons]
    simp only [h1, if_true, i1, i2, and_self]
theorem nextS_len {s : Bs} {k g : Nat} {t r : Bs} (h : nextS s = some (k, t, g, r)) : g + t.length + r.length = s.length ∧ r = s.drop (g + t.length) ∧ s.drop g = t ++ r ∧ g < s.length := by
  unfold nextS at h
  have h0 := tw_dw isP s
  have hd := dw_drop isP s
  split at h
  · cases h
  · rename_i c r0 e
    simp only [Option.some.injEq, Prod.mk.injEq] at h
    obtain ⟨rfl, rfl, rfl, rfl⟩ := h
    have h1 := tw_dw (hasB (begunB c.toNat)) (c :: r0)
    have h2 := dw_drop (hasB (begunB c.toNat)) (c :: r0)
    have e1 := congrArg List.length h0
    have e2 := congrArg List.length h1
    rw [e] at e1 hd
    simp only [List.length_append, List.length_cons] at e1 e2
    refine ⟨by omega, ?_, by rw [h1, hd], by omega⟩
    rw [h2, hd, List.drop_drop]
theorem valB_pos {t : Bs} (h : (valB 4 t).2 = 0) : t ≠ [] := by
  rintro rfl
  simp [valB, isSign] at h
theorem has_begun (c : Nat) (h : begunB c ≠ 4) : hasB (begunB c) c = true := by
  unfold begunB at h ⊢
  by_cases h1 : isL c = true
  · simp [h1, hasB]
  · by_cases h2 : isD c = true
    · simp [h1, h2, hasB]
    · by_cases h3 : c = 47
      · subst h3; decide
      · simp [h1, h2, h3] at h
/-- A word that is right has a byte. -/
theorem next_pos {s : Bs} {k g : Nat} {t r : Bs} (h : nextS s = some (k, t, g, r)) (hv : (valB k t).2 = 0) : t ≠ [] := by
  unfold nextS at h
  split at h
  · cases h
  · rename_i c r0 e
    simp only [Option.some.injEq, Prod.mk.injEq] at h
    obtain ⟨rfl, rfl, rfl, rfl⟩ := h
    by_cases h4 : begunB c.toNat = 4
    · rw [h4] at hv; rw [h4]; exact valB_pos hv
    · have := has_begun c.toNat h4
      unfold tw
      rw [List.takeWhile_cons]
      simp [this]
theorem begunB_pos (c : Nat) : 1 ≤ begunB c ∧ begunB c ≤ 4 := by
  unfold begunB
  split
  · omega
  split
  · omega
  split <;> omega
theorem lexF_step {ln f at_ k g : Nat} {s t r : Bs} (h : nextS s = some (k, t, g, r)) (hv : (valB k t).2 = 0) :
    lexF ln (f + 1) s at_ = (⟨k, t, (valB k t).1, ln, at_ + g + 1⟩ :: (lexF ln f r (at_ + g + t.length)).1, (lexF ln f r (at_ + g + t.length)).2) := by
  rw [lexF, h]
  simp only
  rw [if_neg (by simpa using hv)]
theorem lexF_bad {ln f at_ k g : Nat} {s t r : Bs} (h : nextS s = some (k, t, g, r)) (hv : (valB k t).2 ≠ 0) : lexF ln (f + 1) s at_ = ([], at_ + g + 1, (valB k t).2) := by
  rw [lexF, h]
  simp only
  rw [if_pos hv]
theorem lexF_none {ln f at_ : Nat} {s : Bs} (h : nextS s = none) : lexF ln (f + 1) s at_ = ([], 0, 0) := by rw [lexF, h]
theorem lexF_fuel (ln : Nat) : ∀ (f f' : Nat) (s : Bs) (at_ : Nat), s.length < f → s.length < f' → lexF ln f s at_ = lexF ln f' s at_
  | 0, _, _, _, h, _ => by omega
  | _, 0, _, _, _, h => by omega
  | f + 1, f' + 1, s, at_, h, h' => by
    cases hn : nextS s with
    | none => rw [lexF_none hn, lexF_none hn]
    | some x =>
      obtain ⟨k, t, g, r⟩ := x
      by_cases hv : (valB k t).2 = 0
      · have hl := nextS_len hn
        have ht := List.length_pos_iff.2 (next_pos hn hv)
        rw [lexF_step hn hv, lexF_step hn hv, lexF_fuel ln f f' r _ (by omega) (by omega)]
      · rw [lexF_bad hn hv, lexF_bad hn hv]
/-- Behind some words. -/
def pre (acc : List Tok) (r : List Tok × Nat × Nat) : List Tok × Nat × Nat := if r.2.2 ≠ 0 then ([], r.2) else (acc ++ r.1, r.2)
def lexP (ln : Nat) (s : Bs) (at_ : Nat) (acc : List Tok) : List Tok × Nat × Nat := pre acc (lexF ln (s.length + 1) s at_)
theorem lexP_none {ln at_ : Nat} {s : Bs} {acc : List Tok} (h : nextS s = none) : lexP ln s at_ acc = (acc, 0, 0) := by
  unfold lexP pre; rw [lexF_none h]; simp
theorem lexP_bad {ln at_ k g : Nat} {s t r : Bs} {acc : List Tok} (h : nextS s = some (k, t, g, r)) (hv : (valB k t).2 ≠ 0) : lexP ln s at_ acc = ([], at_ + g + 1, (valB k t).2) := by
  unfold lexP pre; rw [lexF_bad h hv]; simp [hv]
theorem lexP_step {ln at_ k g : Nat} {s t r : Bs} {acc : List Tok} (h : nextS s = some (k, t, g, r)) (hv : (valB k t).2 = 0) :
    lexP ln s at_ acc = lexP ln r (at_ + g + t.length) (acc ++ [⟨k, t, (valB k t).1, ln, at_ + g + 1⟩]) := by
  have hl := nextS_len h
  have ht := List.length_pos_iff.2 (next_pos h hv)
  unfold lexP
  rw [lexF_step h hv, lexF_fuel ln s.length (r.length + 1) r _ (by omega) (by omega)]
  generalize lexF ln (r.length + 1) r (at_ + g + t.length) = R
  unfold pre
  simp only [List.append_assoc, List.cons_append, List.nil_append]
theorem lineR_pre (ln n : Nat) (s : Bs) : lineR ln n (lexP ln s 0 []) = lineR ln n (lexF ln (s.length + 1) s 0) := by
  unfold lexP pre
  split
  · rename_i h; unfold lineR; rw [if_pos h, if_pos h]
  · simp
theorem lineB_eq (ln : Nat) (s : Bs) : lineB ln s = lineR ln (cutH s).length (lexP ln (cutH s) 0 []) := by rw [lineR_pre]; rfl
end Go.Proofs.YtonpakndocgndaaGreatDoor

