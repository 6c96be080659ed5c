/- The longest way, from the last one on: plain lists. -/
import Derived.Test.YtnkffjdoillmaaaBack
namespace Go.Proofs.Ytnkffjdoillmaaa
/-- The greatest of these, and of what there is. -/
def fm (L : List Nat) (x : Nat) (tos : List Nat) : Nat := tos.foldl (fun v to => max v (L.getD to 0)) (L.getD x 0)
theorem fm_snoc (L : List Nat) (x : Nat) (tos : List Nat) (to : Nat) : fm L x (tos ++ [to]) = max (fm L x tos) (L.getD to 0) := by unfold fm; rw [List.foldl_append]; rfl
def stp (l : List Ins) (L : List Nat) (x : Nat) : List Nat := L.set x (fm L x (ways (at0 l x) x) + 1)
def foldSt (l : List Ins) {n : Nat} (xs : List (At n)) : List Nat := xs.foldl (fun L x => stp l L x.1) (List.replicate n 0)
theorem foldSt_snoc (l : List Ins) {n : Nat} (xs : List (At n)) (x : At n) : foldSt l (xs ++ [x]) = stp l (foldSt l xs) x.1 := by unfold foldSt; rw [List.foldl_append]; rfl
theorem foldl_len (l : List Ins) {n : Nat} (xs : List (At n)) : ∀ L : List Nat, (xs.foldl (fun L x => stp l L x.1) L).length = L.length := by
  induction xs with
  | nil => exact fun L => rfl
  | cons x t ih => intro L; rw [List.foldl_cons, ih]; simp [stp]
theorem foldSt_len (l : List Ins) {n : Nat} (xs : List (At n)) : (foldSt l xs).length = n := by unfold foldSt; rw [foldl_len]; simp
theorem fm_le {L : List Nat} {B : Nat} (h : ∀ j, L.getD j 0 ≤ B) (x : Nat) (tos : List Nat) : fm L x tos ≤ B := by
  have key : ∀ (tos : List Nat) (v : Nat), v ≤ B → tos.foldl (fun v to => max v (L.getD to 0)) v ≤ B := by
    intro tos
    induction tos with
    | nil => exact fun v hv => hv
    | cons t r ih => intro v hv; exact ih _ (by show max v (L.getD t 0) ≤ B; have := h t; omega)
  exact key tos _ (h x)
theorem foldl_le (l : List Ins) {n : Nat} (xs : List (At n)) : ∀ (L : List Nat) (B : Nat), (∀ j, L.getD j 0 ≤ B) → ∀ j, (xs.foldl (fun L x => stp l L x.1) L).getD j 0 ≤ B + xs.length := by
  induction xs with
  | nil => exact fun L B h => h
  | cons x t ih =>
    intro L B h j
    rw [List.foldl_cons]
    have := ih (stp l L x.1) (B + 1) (fun j => by
      unfold stp
      rw [getD_set]
      split
      · have := fm_le h x.1 (ways (at0 l x.1) x.1); omega
      · have := h j; omega) j
    simp only [List.length_cons]
    omega
theorem foldSt_le (l : List Ins) {n : Nat} (xs : List (At n)) (j : Nat) : (foldSt l xs).getD j 0 ≤ xs.length := by
  have := foldl_le l xs (List.replicate n 0) 0 (fun j => by
    rw [List.getD_eq_getElem?_getD, List.getElem?_replicate]
    split <;> simp) j
  unfold foldSt
  omega
theorem fm_maxl (L : List Nat) (x : Nat) (tos : List Nat) (h : L.getD x 0 = 0) : fm L x tos = maxl (tos.map fun to => L.getD to 0) := by
  have key : ∀ (tos : List Nat) (v : Nat), tos.foldl (fun v to => max v (L.getD to 0)) v = max v (maxl (tos.map fun to => L.getD to 0)) := by
    intro tos
    induction tos with
    | nil => intro v; simp [maxl]
    | cons t r ih =>
      intro v
      rw [List.foldl_cons, ih]
      show _ = max v (max (L.getD t 0) (maxl _))
      omega
  unfold fm
  rw [key, h]
  omega
theorem down_st {l : List Ins} {n : Nat} (hl : l.length = n) (h0 : 0 < n) : ∀ k, k ≤ n → foldSt l (down h0 k) = List.replicate (n - k) 0 ++ (lgl l).drop (n - k)
  | 0, _ => by
    have : (lgl l).drop n = [] := List.drop_of_length_le (by rw [lgl_len]; omega)
    simp [foldSt, down, this]
  | k + 1, hk => by
    rw [down_succ, foldSt_snoc, down_st hl h0 k (by omega)]
    obtain ⟨m, hm⟩ : ∃ m, n - k = m + 1 := ⟨n - k - 1, by omega⟩
    have e1 : n - 1 - k = m := by omega
    have e2 : n - (k + 1) = m := by omega
    show stp l _ (n - 1 - k) = _
    rw [e1, e2, hm]
    have hml : m < l.length := by omega
    have hi : l[m]? = some (at0 l m) := by
      unfold at0; rw [List.getD_eq_getElem?_getD, List.getElem?_eq_getElem hml]; rfl
    have hz : (List.replicate (m + 1) 0 ++ (lgl l).drop (m + 1)).getD m 0 = 0 := by
      rw [List.getD_eq_getElem?_getD, List.getElem?_append_left (by simp)]; simp
    unfold stp
    rw [fm_maxl _ _ _ hz]
    have hw : (ways (at0 l m) m).map (fun to => (List.replicate (m + 1) 0 ++ (lgl l).drop (m + 1)).getD to 0) = (ways (at0 l m) m).map (lg l) := by
      refine List.map_congr_left fun to hto => ?_
      have := ways_gt hto
      rw [List.getD_eq_getElem?_getD, List.getElem?_append_right (by simp; omega), List.getElem?_drop]
      unfold lg
      rw [List.getD_eq_getElem?_getD]
      congr 2
      simp
      omega
    rw [hw, ← lg_step hi]
    have hd : (lgl l).drop m = lg l m :: (lgl l).drop (m + 1) := by
      have hlt : m < (lgl l).length := by rw [lgl_len]; exact hml
      rw [List.drop_eq_getElem_cons hlt]
      unfold lg
      rw [List.getD_eq_getElem?_getD, List.getElem?_eq_getElem hlt]; rfl
    rw [hd, List.replicate_succ', List.append_assoc, List.set_append_right _ _ (by simp)]
    simp
theorem down_all {l : List Ins} {n : Nat} (hl : l.length = n) (h0 : 0 < n) : foldSt l (down h0 n) = lgl l := by
  rw [down_st hl h0 n (Nat.le_refl _)]; simp
end Go.Proofs.Ytnkffjdoillmaaa

