/- All calls, gathered in whatever order, sorted: they are the rows in their order. Plain facts on lists. -/
import Derived.Test.YtcoejjhfmbpnnaaLook
import Derived.Maps.RangeWalk
import Derived.Shelf.SlSortCmp.WholeK
namespace Go.Proofs.Ytcoejjhfmbpnnaa
open Go.RowKit Go.Maps

/-- Gathered so far: just the rows whose numbers are no longer to come, none twice. -/
structure Got (left : Lit → Bool) (l : List Row) : Prop where
  mem : ∀ x, x ∈ l ↔ x ∈ rows ∧ left (.int .u32 x.1) = false
  nodup : l.Nodup

theorem rows_nodup : rows.Nodup := by decide
theorem key_inj : ∀ x ∈ rows, ∀ y ∈ rows, x.1 = y.1 → x = y := by decide

theorem got_start (h : ∀ n, Maps.has (numD 30) (.int .u32 n) = (byNum n).isSome) : Got (Maps.has (numD 30)) [] := by
  refine ⟨fun x => ⟨fun hx => by simp at hx, fun ⟨hx, hl⟩ => ?_⟩, List.nodup_nil⟩
  exfalso
  rw [h] at hl
  have : byNum x.1 = none := by simpa using hl
  unfold byNum at this
  rw [List.find?_eq_none] at this
  exact this x hx (by simp)

theorem got_step {left : Lit → Bool} {l : List Row} (h : Got left l) (r : Row) (hr : r ∈ rows) (hl : left (.int .u32 r.1) = true) :
    Got (fun z => left z && !z.sameKey (.int .u32 r.1)) (l ++ [r]) := by
  refine ⟨fun x => ?_, ?_⟩
  · rw [List.mem_append, List.mem_singleton, h.mem]
    by_cases e : x = r
    · subst e
      simp [hr, WideAt.sameKey_self (a := .int .u32 x.1) trivial]
    · have hne : x ∈ rows → (Lit.int .u32 x.1).sameKey (.int .u32 r.1) = false := by
        intro hx
        cases hs : (Lit.int .u32 x.1).sameKey (.int .u32 r.1)
        · rfl
        · exfalso
          have := WideAt.sameKey_eq hs
          simp at this
          exact e (key_inj x hx r hr (by omega))
      constructor
      · rintro (⟨hx, hf⟩ | e')
        · exact ⟨hx, by simp [hf]⟩
        · exact absurd e' e
      · rintro ⟨hx, hf⟩
        rw [hne hx] at hf
        exact .inl ⟨hx, by simpa using hf⟩
  · rw [List.nodup_append]
    refine ⟨h.nodup, by simp, fun a ha b hb => ?_⟩
    rw [List.mem_singleton] at hb
    subst hb
    rintro rfl
    have := ((h.mem a).1 ha).2
    rw [hl] at this; cases this

theorem strict_ext : ∀ (l m : List Row), l.Pairwise (fun a b => a.1 < b.1) → m.Pairwise (fun a b => a.1 < b.1) → (∀ x, x ∈ l ↔ x ∈ m) → l = m
  | [], [], _, _, _ => rfl
  | [], b :: m, _, _, h => by have := (h b).2 (by simp); simp at this
  | a :: l, [], _, _, h => by have := (h a).1 (by simp); simp at this
  | a :: l, b :: m, hl, hm, h => by
    have hl' := List.pairwise_cons.1 hl
    have hm' := List.pairwise_cons.1 hm
    have e : a = b := by
      have h1 := (h a).1 (by simp)
      have h2 := (h b).2 (by simp)
      rw [List.mem_cons] at h1 h2
      rcases h1 with h1 | h1
      · exact h1
      · rcases h2 with h2 | h2
        · exact h2.symm
        · have := hm'.1 a h1
          have := hl'.1 b h2
          omega
    subst e
    rw [strict_ext l m hl'.2 hm'.2 (fun x => ?_)]
    have hx := h x
    rw [List.mem_cons, List.mem_cons] at hx
    constructor
    · intro k
      rcases hx.1 (.inr k) with e | k'
      · subst e; have := hl'.1 x k; omega
      · exact k'
    · intro k
      rcases hx.2 (.inr k) with e | k'
      · subst e; have := hm'.1 x k; omega
      · exact k'

def cmpF (x y : Row) : Int := if (x.1 : Int) < y.1 then -1 else if (y.1 : Int) < x.1 then 1 else 0
theorem ltOf_cmpF (x y : Row) : ltOf cmpF x y = decide (x.1 < y.1) := by
  unfold ltOf cmpF
  by_cases h1 : x.1 < y.1
  · have : (x.1 : Int) < y.1 := by omega
    simp [this, h1]
  · have h1' : ¬ (x.1 : Int) < y.1 := by omega
    rw [if_neg h1']
    by_cases h2 : y.1 < x.1
    · have : (y.1 : Int) < x.1 := by omega
      simp [this, h1]
    · have : ¬ (y.1 : Int) < x.1 := by omega
      simp [this, h1]
theorem swo_cmpF : Sort.SWO (ltOf cmpF) where
  irrefl x := by rw [ltOf_cmpF]; simp
  trans x y z h1 h2 := by rw [ltOf_cmpF] at *; simp at *; omega
  ntrans x y z h1 h2 := by rw [ltOf_cmpF] at *; simp at *; omega

theorem rows_sorted : rows.Pairwise (fun a b => a.1 < b.1) := by decide

instance : Inhabited Row := ⟨zeroRow⟩

theorem sorted_is_rows (l : List Row) (left : Lit → Bool) (h : Got left l) (hl : ∀ z, left z = false) (d' : Array Row) (hp : Sort.PermIn 0 l.toArray.size l.toArray d') (hs : Sort.SortedIn (ltOf cmpF) 0 l.toArray.size d') : d' = rows.toArray := by
  obtain ⟨hsz, _, hperm⟩ := hp
  have e1 : (d'.extract 0 l.toArray.size) = d' := by rw [← hsz]; exact Array.extract_size
  have e2 : (l.toArray.extract 0 l.toArray.size) = l.toArray := Array.extract_size
  rw [e1, e2] at hperm
  have hmem : ∀ x, x ∈ d'.toList ↔ x ∈ rows := fun x => by
    rw [hperm.mem_iff]
    show x ∈ l ↔ _
    rw [h.mem]
    simp [hl]
  have hnd : d'.toList.Nodup := hperm.nodup_iff.2 h.nodup
  have hle : d'.toList.Pairwise (fun a b => a.1 < b.1) := by
    rw [List.pairwise_iff_getElem]
    intro i j hi hj hij
    have hi' : i < d'.size := by simpa using hi
    have hj' : j < d'.size := by simpa using hj
    have h1 := hs i j (Nat.zero_le _) hij (by rw [← hsz]; exact hj')
    rw [ltOf_cmpF, getElem!_pos d' i hi', getElem!_pos d' j hj'] at h1
    have h2 : d'[i].1 ≤ d'[j].1 := by simpa using h1
    have h3 : d'.toList[i] ≠ d'.toList[j] := fun e => by
      have := (List.pairwise_iff_getElem.1 hnd) i j hi hj hij
      exact this e
    have h4 : d'.toList[i] ∈ rows := (hmem _).1 (List.getElem_mem _)
    have h5 : d'.toList[j] ∈ rows := (hmem _).1 (List.getElem_mem _)
    have h6 : d'.toList[i].1 ≠ d'.toList[j].1 := fun e => h3 (key_inj _ h4 _ h5 e)
    simp only [Array.getElem_toList] at h6 ⊢
    omega
  have := strict_ext _ _ hle rows_sorted hmem
  rw [← this]
end Go.Proofs.Ytcoejjhfmbpnnaa
