/- What the two maps answer: the call of a name, of a number. -/
import Derived.Test.YtonpakndocgndaaGreatDoorOnce
namespace Go.Proofs.YtonpakndocgndaaGreatDoor
open Go.RowKit Go.Maps Go.WideMaps Go.WideElems Go.ChangeMaps

abbrev Row := Nat × List UInt8 × Nat
def fold (key : Row → Lit) (l : List Row) : DataW Unit := l.foldl (fun d r => d.put (key r) (rowD r)) (.map [])

theorem fold_isMap (key : Row → Lit) (l : List Row) : ∀ D : DataW Unit, IsMap D → IsMap (l.foldl (fun d r => d.put (key r) (rowD r)) D) := by
  induction l with
  | nil => intro D h; exact h
  | cons r l ih => intro D h; exact ih _ (h.put _ _)

theorem fold_at (key : Row → Lit) (hk : ∀ r, WideAt.IsKeyLit (key r)) (k : Lit) (p : Row → Bool) (hp : ∀ r, p r = true ↔ key r = k) (z : DataW Unit) (l : List Row) :
    (fold key l.reverse).atKey k z = (match l.find? p with | some r => rowD r | none => z) ∧
    Maps.has (fold key l.reverse) k = (l.find? p).isSome := by
  induction l with
  | nil => exact ⟨rfl, rfl⟩
  | cons r l ih =>
    have e : fold key (r :: l).reverse = (fold key l.reverse).put (key r) (rowD r) := by
      unfold fold; rw [List.reverse_cons, List.foldl_append]; rfl
    have hm : IsMap (fold key l.reverse) := fold_isMap key _ _ ⟨[], rfl⟩
    rw [e, List.find?_cons]
    by_cases h : key r = k
    · have h2 := (hp r).2 h
      subst h
      rw [atKey_put_same hm (hk r), has_put_same hm (hk r), h2]
      simp
    · have h2 : p r = false := by cases h3 : p r; rfl; exact absurd ((hp r).1 h3) h
      rw [atKey_put_other (fun e => h e.symm), has_put_other (fun e => h e.symm), ih.1, ih.2, h2]
      simp

theorem find_rev {α : Type} (p : α → Bool) (l : List α) (h : l.Pairwise (fun a b => p a = true → p b = false)) : l.reverse.find? p = l.find? p := by
  induction l with
  | nil => rfl
  | cons a l ih =>
    rw [List.reverse_cons, List.find?_append, List.find?_cons, ih (List.pairwise_cons.1 h).2]
    cases hp : p a
    · simp [hp]
    · have : l.find? p = none := by
        rw [List.find?_eq_none]
        intro x hx
        simp [(List.pairwise_cons.1 h).1 x hx hp]
      simp [this, hp]

/-- The call of a name; of a number. -/
def byName (l : List UInt8) : Option Row := rows.find? (fun r => decide (r.2.1 = l))
def byNum (n : Int) : Option Row := rows.find? (fun r => decide ((r.1 : Int) = n))
def zeroRow : Row := (0, [], 0)

theorem names_apart : rows.Pairwise (fun a b => a.2.1 ≠ b.2.1) := by decide
theorem nums_apart : rows.Pairwise (fun a b => a.1 ≠ b.1) := by decide

theorem name_at (l : List UInt8) : (nameD 30).atKey (.string l) (rowD zeroRow) = rowD ((byName l).getD zeroRow) ∧ Maps.has (nameD 30) (.string l) = (byName l).isSome := by
  have h := fold_at (fun r => .string r.2.1) (fun r => trivial) (.string l) (fun r => decide (r.2.1 = l)) (fun r => by simp) (rowD zeroRow) rows.reverse
  have e : nameD 30 = fold (fun r => .string r.2.1) rows.reverse.reverse := by rw [List.reverse_reverse]; rfl
  have e2 : rows.reverse.find? (fun r => decide (r.2.1 = l)) = byName l :=
    by exact find_rev _ _ (names_apart.imp fun hab ha => by simp only [decide_eq_true_eq, decide_eq_false_iff_not] at *; rw [← ha]; exact fun e => hab e.symm)
  rw [e, h.1, h.2, e2]
  exact ⟨by cases byName l <;> rfl, rfl⟩

theorem num_at (n : Int) : (numD 30).atKey (.int .u32 n) (rowD zeroRow) = rowD ((byNum n).getD zeroRow) ∧ Maps.has (numD 30) (.int .u32 n) = (byNum n).isSome := by
  have h := fold_at (fun r => .int .u32 r.1) (fun r => trivial) (.int .u32 n) (fun r => decide ((r.1 : Int) = n)) (fun r => by simp) (rowD zeroRow) rows.reverse
  have e : numD 30 = fold (fun r => .int .u32 r.1) rows.reverse.reverse := by rw [List.reverse_reverse]; rfl
  have e2 : rows.reverse.find? (fun r => decide ((r.1 : Int) = n)) = byNum n :=
    by exact find_rev _ _ (nums_apart.imp fun hab ha => by simp only [decide_eq_true_eq, decide_eq_false_iff_not] at *; omega)
  rw [e, h.1, h.2, e2]
  exact ⟨by cases byNum n <;> rfl, rfl⟩
end Go.Proofs.YtonpakndocgndaaGreatDoor

