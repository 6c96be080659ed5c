/- MountHeld by lists: mounts that stand in one another. -/
import Derived.Test.YtmbgmbheonpamaaMtH
namespace Go.Proofs.Ytmbgmbheonpamaa.Mt
theorem find_at {q : MtM → Bool} {l : Ms} {i : Nat} {m : MtM} (h : l[i]? = some m) (hq : q m = true) (hn : ∀ j x, j < i → l[j]? = some x → q x = false) : l.find? q = some m ∧ ixN q l = i := by
  have h1 := idxF_some h hq hn
  rcases idxF_find (q := q) (l := l) with ⟨_, _, h3⟩ | ⟨i', m', h2, h3, h4, _⟩
  · rw [h3 m (List.mem_of_getElem? h)] at hq; cases hq
  · have : i' = i := by omega
    subst this
    rw [h] at h4; cases h4
    exact ⟨h3, by unfold ixN; rw [h1]; rfl⟩
theorem find_no {q : MtM → Bool} {l : Ms} (h : ∀ m ∈ l, q m = false) : l.find? q = none := List.find?_eq_none.2 fun m hm => by rw [h m hm]; decide
/-- The j-th of them; k is held h times. -/
def hm (k : Nat) (h : Int) (j : Nat) : MtM := ⟨j, if j = 0 then 0 else (j : Int) - 1, if j = 0 then 0 else 99, if j = 0 then 1 else 9 + (j : Int), if j = k then h else 0⟩
def HS (n k : Nat) (h : Int) : Ms := (List.range (n + 1)).map (hm k h)
section
variable {n k : Nat} {h : Int}
theorem hs_get (n k : Nat) (h : Int) {j : Nat} (hj : j ≤ n) : (HS n k h)[j]? = some (hm k h j) := by
  unfold HS; rw [List.getElem?_map, List.getElem?_range (by omega)]; rfl
theorem hs_is {j : Nat} {m : MtM} (hj : (HS n k h)[j]? = some m) : j ≤ n ∧ m = hm k h j := by
  have hl := (List.getElem?_eq_some_iff.1 hj).1
  have : j ≤ n := by unfold HS at hl; simp at hl; omega
  rw [hs_get n k h this] at hj
  exact ⟨this, (Option.some.inj hj).symm⟩
theorem hs_mem {m : MtM} (hm' : m ∈ HS n k h) : ∃ j, j ≤ n ∧ m = hm k h j := by
  obtain ⟨j, hj⟩ := List.mem_iff_getElem?.1 hm'
  exact ⟨j, hs_is hj⟩
theorem hs_len (n k : Nat) (h : Int) : (HS n k h).length = n + 1 := by simp [HS]
theorem hs_id {j : Nat} (hj : j ≤ n) : (HS n k h).find? (isId (j : Int)) = some (hm k h j) ∧ ixN (isId (j : Int)) (HS n k h) = j :=
  find_at (hs_get n k h hj) (decide_eq_true rfl) fun i x hi hx => by
    obtain ⟨_, rfl⟩ := hs_is hx
    exact decide_eq_false (by show ¬ ((i : Int) = j); omega)
theorem hs_noid {x : Int} (hx : (n : Int) < x) : (HS n k h).find? (isId x) = none := find_no fun m hm' => by
  obtain ⟨j, hj, rfl⟩ := hs_mem hm'
  exact decide_eq_false (by show ¬ ((j : Int) = x); omega)
theorem hs_st (n k : Nat) (h : Int) : (HS n k h).find? (stB ((n : Int), 99)) = none := find_no fun m hm' => by
  obtain ⟨j, hj, rfl⟩ := hs_mem hm'
  refine decide_eq_false ?_
  rintro ⟨h1, h2, _⟩
  have h1 : (j : Int) ≠ 0 := h1
  have h2 : (if j = 0 then (0 : Int) else (j : Int) - 1) = n := h2
  rw [if_neg (by omega)] at h2
  omega
theorem hs_in {j : Nat} (hj : j < n) : (HS n k h).any (inB (j : Int)) = true := by
  refine List.any_eq_true.2 ⟨hm k h (j + 1), List.mem_of_getElem? (hs_get n k h (by omega)), decide_eq_true ⟨?_, ?_⟩⟩
  · show ((j + 1 : Nat) : Int) ≠ 0; omega
  · show (if j + 1 = 0 then (0 : Int) else ((j + 1 : Nat) : Int) - 1) = j
    rw [if_neg (by omega)]; omega
theorem hs_noin (n k : Nat) (h : Int) : (HS n k h).any (inB (n : Int)) = false := List.any_eq_false.2 fun m hm' => by
  obtain ⟨j, hj, rfl⟩ := hs_mem hm'
  unfold inB
  simp only [decide_eq_true_eq]
  rintro ⟨h1, h2⟩
  have h1 : (j : Int) ≠ 0 := h1
  have h2 : (if j = 0 then (0 : Int) else (j : Int) - 1) = n := h2
  rw [if_neg (by omega)] at h2
  omega
theorem hs_bind (n k : Nat) (hn : n < 15) : bindE (HS n k 0) ((n : Int), 99) = 0 := by
  unfold bindE
  rw [if_neg (by rw [(hs_id (Nat.le_refl n)).1]; exact fun e => by cases e), if_neg (by rw [hs_st]; exact fun e => e rfl), if_neg (by rw [hs_len]; omega)]
theorem hs_next (n k : Nat) : bindF (HS n k 0) ((n : Int) + 1) (10 + n) ((n : Int), 99) = HS (n + 1) k 0 := by
  unfold bindF HS
  rw [List.range_succ (n := n + 1), List.map_append]
  congr 1
  unfold hm
  simp
  omega
theorem hs_held {j : Nat} (hj : j ≤ n) : (hm k h j).held = if j = k then h else 0 := rfl
theorem hs_holdE (hk : k ≤ n) : holdE (HS n k h) (k : Int) true = 0 := by unfold holdE; rw [(hs_id hk).1]; rfl
theorem hs_setheld (hk : k ≤ n) (v : Int) : heldM (HS n k h) k (hm k h k) v = HS n k v := by
  unfold heldM
  apply List.ext_getElem?
  intro j
  rw [List.getElem?_set, hs_len]
  by_cases e : k = j
  · subst e
    rw [if_pos rfl, if_pos (by omega), hs_get n k v hk]
    unfold hm
    simp
  · rw [if_neg e]
    by_cases hj : j ≤ n
    · rw [hs_get n k h hj, hs_get n k v hj]
      unfold hm
      rw [if_neg (show ¬ j = k from fun q => e q.symm), if_neg (show ¬ j = k from fun q => e q.symm)]
    · rw [List.getElem?_eq_none (by rw [hs_len]; omega), List.getElem?_eq_none (by rw [hs_len]; omega)]
theorem hs_holdF (hk : k ≤ n) : holdF (HS n k h) (k : Int) true = HS n k (h + 1) := by
  unfold holdF
  rw [(hs_id hk).1, (hs_id hk).2]
  show heldM (HS n k h) k (hm k h k) ((hm k h k).held + 1) = _
  rw [hs_setheld hk, hs_held hk, if_pos rfl]
theorem hs_lessE (hk : k ≤ n) (h0 : h ≠ 0) : holdE (HS n k h) (k : Int) false = 0 := by
  unfold holdE; rw [(hs_id hk).1]
  show (if false = true then (0 : Int) else if (hm k h k).held = 0 then 22 else 0) = 0
  rw [if_neg (by decide), hs_held hk, if_pos rfl, if_neg h0]
theorem hs_lessF (hk : k ≤ n) (h0 : h ≠ 0) : holdF (HS n k h) (k : Int) false = HS n k (h - 1) := by
  unfold holdF
  rw [(hs_id hk).1, (hs_id hk).2]
  show (if false = true then _ else if (hm k h k).held = 0 then HS n k h else heldM (HS n k h) k (hm k h k) ((hm k h k).held - 1)) = _
  rw [if_neg (by decide), hs_held hk, if_pos rfl, if_neg h0, hs_setheld hk]
theorem hs_down {j : Nat} (hj : j ≤ n) (h0 : 0 < j) : downF (HS n k h) ((j : Int), 9 + (j : Int)) ≠ none := by
  unfold downF
  rw [(hs_id hj).1]
  show (if (hm k h j).id ≠ 0 ∧ (hm k h j).root = 9 + (j : Int) then some (hm k h j).at_ else none) ≠ none
  rw [if_pos ⟨by show (j : Int) ≠ 0; omega, by show (if j = 0 then (1 : Int) else 9 + (j : Int)) = _; rw [if_neg (by omega)]⟩]
  exact fun e => by cases e
theorem hs_drop {j : Nat} (hj : j ≤ n) (h0 : 0 < j) : dropE (HS n k h) ((j : Int), 9 + (j : Int)) = if (0 < (if j = k then h else 0)) ∨ (HS n k h).any (inB (j : Int)) = true then 16 else 0 := by
  unfold dropE
  rw [if_neg (hs_down hj h0), (hs_id hj).1]
  rfl
theorem hs_drop_in {j : Nat} (hj : j < n) (h0 : 0 < j) : dropE (HS n k h) ((j : Int), 9 + (j : Int)) = 16 := by
  rw [hs_drop (by omega) h0, if_pos (.inr (hs_in hj))]
theorem hs_drop_held (hn : 0 < n) (h0 : 0 < h) : dropE (HS n n h) ((n : Int), 9 + (n : Int)) = 16 := by
  rw [hs_drop (Nat.le_refl n) hn, if_pos (.inl (by rw [if_pos rfl]; exact h0))]
theorem hs_drop_ok (hn : 0 < n) (h0 : n = k → h = 0) : dropE (HS n k h) ((n : Int), 9 + (n : Int)) = 0 := by
  rw [hs_drop (Nat.le_refl n) hn, if_neg]
  rintro (q | q)
  · by_cases e : n = k
    · rw [if_pos e, h0 e] at q; omega
    · rw [if_neg e] at q; omega
  · rw [hs_noin] at q; cases q
theorem hs_cut (n k : Nat) (h : Int) : cutF (HS (n + 1) k h) (n + 1) = HS n k h := by
  unfold cutF
  rw [List.eraseIdx_eq_take_drop_succ]
  unfold HS
  rw [← List.map_take, ← List.map_drop, List.take_range, List.drop_of_length_le (by simp)]
  simp
theorem hs_drop_no {j : Nat} (hj : n < j) : dropE (HS n k h) ((j : Int), 9 + (j : Int)) = 22 := by
  unfold dropE downF
  rw [hs_noid (by show (n : Int) < ((j : Int), 9 + (j : Int)).1; show (n : Int) < j; omega)]
  rfl
theorem hs_top (k : Nat) (h : Int) : dropE (HS 0 k h) (0, 1) = 22 := by
  unfold dropE downF
  have := (hs_id (n := 0) (k := k) (h := h) (Nat.le_refl 0)).1
  rw [show (((0 : Nat) : Int)) = ((0 : Int), (1 : Int)).1 from rfl] at this
  rw [this]
  rfl
/-- Who is held does not matter where he isn't there. -/
theorem hs_free {k : Nat} {h v : Int} (hk : n < k) : HS n k h = HS n k v := by
  apply List.ext_getElem?
  intro j
  by_cases hj : j ≤ n
  · rw [hs_get n k h hj, hs_get n k v hj]
    unfold hm
    rw [if_neg (show ¬ j = k by omega), if_neg (show ¬ j = k by omega)]
  · rw [List.getElem?_eq_none (by rw [hs_len]; omega), List.getElem?_eq_none (by rw [hs_len]; omega)]
theorem hs_heldle {j : Int} (hh : h ≤ j) (hj : 0 ≤ j) : ∀ m ∈ HS n k h, m.held ≤ j := fun m hm' => by
  obtain ⟨i, _, rfl⟩ := hs_mem hm'
  show (if i = k then h else 0) ≤ j
  split <;> omega
theorem hs_zero (k : Nat) : HS 0 k 0 = [⟨0, 0, 0, 1, 0⟩] := by
  unfold HS hm; simp
end
end Go.Proofs.Ytmbgmbheonpamaa.Mt
