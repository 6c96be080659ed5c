/- Parts of code as lists, and what Make makes of them: lists alone. -/
import Derived.Test.YtcageojoafkojaaJa
namespace Go.Proofs.Ytcageojoafkojaa.Ju
/-- A part of code. -/
structure PtM where
  kd : Nat
  to : Int
  el : Int
  i : Ins
def PtM.cells (p : PtM) : List Value := [.int .u8 p.kd, .int .i64 p.to, .int .i64 p.el, .int .u16 p.i.c, .int .u8 p.i.t, .int .u8 p.i.f, .int .u32 p.i.k]
structure PtM.ok (p : PtM) : Prop where
  kd : p.kd < 256
  to1 : -9223372036854775808 ≤ p.to
  to2 : p.to ≤ 9223372036854775807
  el1 : -9223372036854775808 ≤ p.el
  el2 : p.el ≤ 9223372036854775807
  i : p.i.ok
/-- Names, and how many instructions stand behind them. -/
def lk {β : Type} (n : Int) (b : List (Int × β)) : Option β := (b.find? fun e => decide (e.1 = n)).map Prod.snd
theorem lk_cons {β : Type} (n m : Int) (v : β) (b : List (Int × β)) : lk n ((m, v) :: b) = if m = n then some v else lk n b := by
  unfold lk
  rw [List.find?_cons]
  by_cases h : m = n <;> simp [h]
structure CdM where
  ins : List Ins
  bh : List (Int × Nat)
def skipI (n : Nat) : Ins := ⟨5, 0, 0, n⟩
/-- How far a name is, and a Skip to it, if that is far. -/
def reachF (l : List Ins) (b : Nat) : Nat × List Ins := if l.length - b ≤ 253 then (l.length - b, l) else (0, skipI (l.length - b) :: l)
def cmpF (l : List Ins) (i : Ins) (bt bf : Nat) : List Ins :=
  ⟨i.c, (reachF (reachF l bf).2 bt).1, (reachF l bf).1 + ((reachF (reachF l bf).2 bt).2.length - (reachF l bf).2.length), i.k⟩ :: (reachF (reachF l bf).2 bt).2
/-- A part laid ahead of code: its error, the code. -/
def layF (p : PtM) (c : CdM) : Nat × CdM :=
  if p.kd = 1 then (match lk p.to c.bh with | some _ => (206, c) | none => (0, ⟨c.ins, (p.to, c.ins.length) :: c.bh⟩))
  else if p.kd = 2 then (if p.i.c % 8 = 5 then (210, c) else (0, ⟨p.i :: c.ins, c.bh⟩))
  else if p.kd = 3 then (if p.i.c % 8 ≠ 5 ∨ p.i.c = 5 then (210, c) else match lk p.to c.bh, lk p.el c.bh with
    | some bt, some bf => (0, ⟨cmpF c.ins p.i bt bf, c.bh⟩)
    | _, _ => (207, c))
  else if p.kd = 4 then (match lk p.to c.bh with | some b => (0, ⟨skipI (c.ins.length - b) :: c.ins, c.bh⟩) | none => (207, c))
  else (210, c)
def stepF (p : PtM) (r : Nat × CdM) : Nat × CdM :=
  if r.1 ≠ 0 then r else if (layF p r.2).1 ≠ 0 then layF p r.2 else if 4096 < (layF p r.2).2.ins.length then (205, (layF p r.2).2) else layF p r.2
/-- Make: the last first. -/
def makeF (l : List PtM) : Nat × CdM := l.foldr stepF (0, ⟨[], []⟩)
theorem makeF_cons (p : PtM) (t : List PtM) : makeF (p :: t) = stepF p (makeF t) := rfl
theorem makeF_drop {l : List PtM} {k : Nat} {p : PtM} (h : l[k]? = some p) : makeF (l.drop k) = stepF p (makeF (l.drop (k + 1))) := by
  obtain ⟨h1, h2⟩ := List.getElem?_eq_some_iff.1 h
  rw [List.drop_eq_getElem_cons h1, h2, makeF_cons]
/-- Once there is an error it stays. -/
theorem makeF_bad {l : List PtM} : ∀ {k : Nat}, (makeF (l.drop k)).1 ≠ 0 → makeF l = makeF (l.drop k) := by
  induction l with
  | nil => intro k h; simp
  | cons p t ih =>
    intro k h
    cases k with
    | zero => rfl
    | succ k =>
      rw [List.drop_succ_cons] at h ⊢
      have e := ih h
      rw [makeF_cons, e]
      unfold stepF
      rw [if_pos h]
/-- The names behind are places within the code. -/
def Bnd (c : CdM) : Prop := ∀ n v, lk n c.bh = some v → v ≤ c.ins.length
theorem reach_len (l : List Ins) (b : Nat) : (reachF l b).2.length ≤ l.length + 1 ∧ l.length ≤ (reachF l b).2.length ∧ (reachF l b).1 ≤ 253 := by
  unfold reachF; split <;> simp <;> omega
theorem lay_bnd {p : PtM} {c : CdM} (h : Bnd c) : Bnd (layF p c).2 := by
  unfold layF
  split
  · split
    · exact h
    · intro n v hv
      rw [lk_cons] at hv
      split at hv
      · cases hv; exact Nat.le_refl _
      · exact h n v hv
  · split
    · split
      · exact h
      · intro n v hv; have := h n v hv; simp only [List.length_cons]; omega
    · split
      · split
        · exact h
        · split
          · intro n v hv
            have := h n v hv
            rename_i bt bf _ _
            have h1 := reach_len c.ins bf
            have h2 := reach_len (reachF c.ins bf).2 bt
            simp only [cmpF, List.length_cons]; omega
          · exact h
      · split
        · split
          · intro n v hv; have := h n v hv; simp only [List.length_cons]; omega
          · exact h
        · exact h
theorem step_bnd {p : PtM} {r : Nat × CdM} (h : Bnd r.2) : Bnd (stepF p r).2 := by
  unfold stepF
  split
  · exact h
  · split
    · exact lay_bnd h
    · split <;> exact lay_bnd h
theorem make_bnd : ∀ (l : List PtM), Bnd (makeF l).2
  | [] => fun n v h => by simp [makeF, lk] at h
  | _ :: t => step_bnd (make_bnd t)
theorem lay_len (p : PtM) (c : CdM) : (layF p c).2.ins.length ≤ c.ins.length + 3 := by
  unfold layF
  split
  · split <;> simp
  · split
    · split <;> simp
    · split
      · split
        · simp
        · split
          · rename_i bt bf _ _
            have h1 := reach_len c.ins bf
            have h2 := reach_len (reachF c.ins bf).2 bt
            simp only [cmpF, List.length_cons]; omega
          · simp
      · split
        · split <;> simp
        · simp
theorem make_len : ∀ (l : List PtM), (makeF l).1 = 0 → (makeF l).2.ins.length ≤ 4096
  | [], _ => by simp [makeF]
  | p :: t, h => by
    rw [makeF_cons] at h ⊢
    unfold stepF at h ⊢
    split at h
    · rename_i h2; exact absurd h h2
    · rename_i h0
      rw [if_neg h0]
      split at h
      · rename_i h2; exact absurd h h2
      · rename_i h1
        rw [if_neg h1]
        split at h
        · cases h
        · rename_i h3; rw [if_neg h3]; omega
theorem lk_mem {β : Type} {n : Int} {b : List (Int × β)} : (lk n b).isSome = true ↔ ∃ e ∈ b, e.1 = n := by
  unfold lk
  rw [Option.isSome_map, List.find?_isSome]
  simp
end Go.Proofs.Ytcageojoafkojaa.Ju

