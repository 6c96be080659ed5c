/- MountBack by lists: mounts that stand upon one another. -/
import Derived.Test.YtmbgmbheonpamaaMhW
namespace Go.Proofs.Ytmbgmbheonpamaa.Mt
/-- Where the next one stands, behind these: the root of the last one, or the first place. -/
def tipF (p : Pl) : List Int → Pl
  | [] => p
  | r :: l => ((l.length + 1 : Nat), r)
/-- The mounts, the last one first in the list of their roots. -/
def BS (p : Pl) : List Int → Ms
  | [] => [⟨0, 0, 0, 1, 0⟩]
  | r :: l => bindF (BS p l) ((l.length : Int) + 1) r (tipF p l)
section
variable {p : Pl} {l : List Int}
theorem bs_len (p : Pl) : ∀ l : List Int, (BS p l).length = l.length + 1
  | [] => rfl
  | r :: l => by show (BS p l ++ [_]).length = _; rw [List.length_append, bs_len p l]; rfl
theorem bs_id_le : ∀ {l : List Int} {m : MtM}, m ∈ BS p l → 0 ≤ m.id ∧ m.id ≤ l.length
  | [], m, h => by simp [BS] at h; subst h; exact ⟨by decide, by decide⟩
  | r :: l, m, h => by
    rcases List.mem_append.1 h with h | h
    · have := bs_id_le h; simp; omega
    · simp at h; subst h; exact ⟨by show (0 : Int) ≤ (l.length : Int) + 1; omega, by show (l.length : Int) + 1 ≤ ((r :: l).length : Int); simp⟩
theorem find_app {q : MtM → Bool} (M : Ms) (x : MtM) : (M ++ [x]).find? q = (M.find? q).or (if q x = true then some x else none) := by
  rw [List.find?_append]
  congr 1
  by_cases h : q x = true <;> simp [h]
theorem bs_has : ∀ (l : List Int), (BS p l).find? (isId (l.length : Int)) ≠ none
  | [] => by simp [BS, isId]
  | r :: l => by
    show ((BS p l ++ [_]).find? _) ≠ none
    rw [find_app]
    cases h : (BS p l).find? (isId ((r :: l).length : Int)) with
    | some m => simp
    | none => simp [isId]
theorem tip_id (hp : p.1 = 0) : ∀ l : List Int, (tipF p l).1 = l.length
  | [] => hp
  | r :: l => by show ((l.length + 1 : Nat) : Int) = ((r :: l).length : Int); simp
/-- What stands at the tip: nothing. -/
theorem bs_tip (hp : p.1 = 0) : ∀ l : List Int, (BS p l).find? (stB (tipF p l)) = none := by
  have key : ∀ (l : List Int) (x : Pl), (l.length : Int) ≤ x.1 → (l = [] ∨ (l.length : Int) ≤ x.1) → (∀ m ∈ BS p l, m.id ≠ 0 → m.am < l.length ∨ l = []) → True := fun _ _ _ _ _ => trivial
  have am : ∀ (l : List Int), ∀ m ∈ BS p l, m.id ≠ 0 → m.am < (l.length : Int) := by
    intro l
    induction l with
    | nil => intro m h h0; simp [BS] at h; subst h; exact absurd rfl h0
    | cons r l ih =>
      intro m h h0
      rcases List.mem_append.1 h with h | h
      · have := ih m h h0; simp; omega
      · simp at h; subst h
        show (tipF p l).1 < _
        rw [tip_id hp]; simp; omega
  intro l
  refine find_no fun m hm => decide_eq_false ?_
  rintro ⟨h0, h1, _⟩
  have := am l m hm h0
  rw [tip_id hp] at h1
  omega
theorem bs_bindE (hp : p.1 = 0) (l : List Int) : bindE (BS p l) (tipF p l) = if 16 ≤ l.length + 1 then 28 else 0 := by
  unfold bindE
  rw [if_neg (by rw [tip_id hp]; exact bs_has l), if_neg (by rw [bs_tip hp]; exact fun e => e rfl), bs_len]
/-- What is seen from the first place: the tip. -/
theorem bs_stand (hp : p.1 = 0) : ∀ (l : List Int) (k : Nat), k < l.length → (BS p l).find? (stB (tipF p (l.drop (l.length - k)))) = (BS p l)[k + 1]? ∧ ∃ m, (BS p l)[k + 1]? = some m ∧ m.top = tipF p (l.drop (l.length - (k + 1))) ∧ m.at_ = tipF p (l.drop (l.length - k)) ∧ m.id = (k + 1 : Nat)
  | [], _, h => absurd h (by simp)
  | r :: l, k, h => by
    by_cases e : k = l.length
    · subst e
      have hd : (r :: l).drop ((r :: l).length - l.length) = l := by simp
      have hd2 : (r :: l).drop ((r :: l).length - (l.length + 1)) = r :: l := by simp
      rw [hd, hd2]
      have hg : (BS p (r :: l))[l.length + 1]? = some ⟨(l.length : Int) + 1, (tipF p l).1, (tipF p l).2, r, 0⟩ := by
        show (BS p l ++ [_])[l.length + 1]? = _
        rw [List.getElem?_append_right (by rw [bs_len]; exact Nat.le_refl _), bs_len]; simp
      refine ⟨?_, _, hg, ?_, rfl, ?_⟩
      · rw [hg]
        show (BS p l ++ [_]).find? _ = _
        rw [find_app, bs_tip hp]
        simp [stB]
        omega
      · show ((l.length : Int) + 1, r) = (((l.length + 1 : Nat) : Int), r)
        congr 1
      · show (l.length : Int) + 1 = ((l.length + 1 : Nat) : Int); omega
    · have hk : k < l.length := by simp at h; omega
      obtain ⟨h1, m, h2, h3, h4, h5⟩ := bs_stand hp l k hk
      have hd : (r :: l).drop ((r :: l).length - k) = l.drop (l.length - k) := by
        rw [show (r :: l).length - k = (l.length - k) + 1 by simp; omega]; rfl
      have hd2 : (r :: l).drop ((r :: l).length - (k + 1)) = l.drop (l.length - (k + 1)) := by
        rw [show (r :: l).length - (k + 1) = (l.length - (k + 1)) + 1 by simp; omega]; rfl
      have hg : (BS p (r :: l))[k + 1]? = (BS p l)[k + 1]? := by
        show (BS p l ++ [_])[k + 1]? = _
        rw [List.getElem?_append_left (by rw [bs_len]; omega)]
      rw [hd, hd2, hg]
      refine ⟨?_, m, h2, h3, h4, h5⟩
      rw [← h1]
      show (BS p l ++ [_]).find? _ = _
      rw [find_app, h1, h2]; rfl
theorem bs_seen (hp : p.1 = 0) {last : Int} (l : List Int) (hf : Fit (BS p l) last) : ∀ (d k : Nat), k + d = l.length → seenF (BS p l) (tipF p (l.drop (l.length - k))) = tipF p l
  | 0, k, e => by
    rw [show l.length - k = 0 by omega]
    exact seen_none (bs_tip hp l)
  | d + 1, k, e => by
    obtain ⟨h1, m, h2, h3, _, _⟩ := bs_stand hp l k (by omega)
    rw [seen_some hf (h1.trans h2), h3]
    exact bs_seen hp l hf d (k + 1) (by omega)
theorem bs_see (hp : p.1 = 0) {last : Int} (l : List Int) (hf : Fit (BS p l) last) : seenF (BS p l) p = tipF p l := by
  have := bs_seen hp l hf l.length 0 (by omega)
  rwa [Nat.sub_zero, List.drop_length] at this
theorem bs_isid : ∀ (l : List Int) (k : Nat), k ≤ l.length → ∃ m, (BS p l)[k]? = some m ∧ m.id = (k : Int)
  | [], k, h => by
    have hk : k = 0 := by simpa using h
    rw [hk]; exact ⟨⟨0, 0, 0, 1, 0⟩, rfl, rfl⟩
  | r :: l, k, h => by
    by_cases e : k = l.length + 1
    · subst e
      refine ⟨⟨(l.length : Int) + 1, (tipF p l).1, (tipF p l).2, r, 0⟩, ?_, ?_⟩
      · show (BS p l ++ [_])[l.length + 1]? = _
        rw [List.getElem?_append_right (by rw [bs_len]; exact Nat.le_refl _), bs_len]; simp
      · show (l.length : Int) + 1 = ((l.length + 1 : Nat) : Int); omega
    · obtain ⟨m, h1, h2⟩ := bs_isid l k (by simp at h; omega)
      refine ⟨m, ?_, h2⟩
      show (BS p l ++ [_])[k]? = _
      rw [List.getElem?_append_left (by rw [bs_len]; simp at h; omega), h1]
theorem bs_down (hp : p.1 = 0) (l : List Int) (k : Nat) (hk : k < l.length) : downF (BS p l) (tipF p (l.drop (l.length - (k + 1)))) = some (tipF p (l.drop (l.length - k))) := by
  obtain ⟨_, m, h2, h3, h4, h5⟩ := bs_stand hp l k hk
  have hid : m.top.1 = m.id := rfl
  have hf : (BS p l).find? (isId m.top.1) = some m := by
    refine (find_at h2 (decide_eq_true rfl) fun j x hj hx => ?_).1
    obtain ⟨y, hy, he⟩ := bs_isid (p := p) l j (by omega)
    rw [hx] at hy; cases hy
    refine decide_eq_false ?_
    show ¬ x.id = m.id
    omega
  rw [← h3]
  unfold downF
  rw [hf]
  show (if m.id ≠ 0 ∧ m.root = m.top.2 then some m.at_ else none) = _
  rw [if_pos ⟨by omega, rfl⟩, h4]
end
end Go.Proofs.Ytmbgmbheonpamaa.Mt
