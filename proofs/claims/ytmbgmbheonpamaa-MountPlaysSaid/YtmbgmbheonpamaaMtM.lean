/- Mounts as lists. -/
import Derived.Test.YtmbgmbheonpamaaInB
namespace Go.Proofs.Ytmbgmbheonpamaa.Mt
/-- A mount: its number, the place at which it stands, its root, how often it is held. -/
structure MtM where
  id : Int
  am : Int
  ai : Int
  root : Int
  held : Int
deriving DecidableEq
abbrev Pl := Int × Int
abbrev Ms := List MtM
def MtM.at_ (m : MtM) : Pl := (m.am, m.ai)
def MtM.top (m : MtM) : Pl := (m.id, m.root)
/-- Where the first one stands of which something is so; -1: there is none. -/
def idxF (q : MtM → Bool) : Ms → Int
  | [] => -1
  | m :: l => if q m = true then 0 else if idxF q l < 0 then -1 else idxF q l + 1
theorem idxF_ge (q : MtM → Bool) : ∀ l : Ms, -1 ≤ idxF q l
  | [] => by show (-1 : Int) ≤ -1; decide
  | m :: l => by unfold idxF; have := idxF_ge q l; split; omega; split <;> omega
theorem idxF_none {q : MtM → Bool} : ∀ {l : Ms}, (∀ m ∈ l, q m = false) → idxF q l = -1
  | [], _ => rfl
  | m :: l, h => by
    unfold idxF
    rw [if_neg (by rw [h m (by simp)]; decide), idxF_none (fun x hx => h x (by simp [hx]))]; decide
theorem idxF_some {q : MtM → Bool} : ∀ {l : Ms} {i : Nat} {m : MtM}, l[i]? = some m → q m = true → (∀ j x, j < i → l[j]? = some x → q x = false) → idxF q l = i
  | [], _, _, h, _, _ => by simp at h
  | x :: l, 0, m, h, he, _ => by
    simp at h; subst h
    unfold idxF; rw [if_pos he]; rfl
  | x :: l, i + 1, m, h, he, hn => by
    have ih := idxF_some (l := l) (i := i) (by simpa using h) he (fun j y hj hy => hn (j + 1) y (by omega) (by simpa using hy))
    unfold idxF
    rw [if_neg (by rw [hn 0 x (by omega) rfl]; decide), ih, if_neg (by omega)]; push_cast; rfl
theorem idxF_find {q : MtM → Bool} : ∀ {l : Ms}, (idxF q l = -1 ∧ l.find? q = none ∧ ∀ m ∈ l, q m = false) ∨ ∃ (i : Nat) (m : MtM), idxF q l = i ∧ l.find? q = some m ∧ l[i]? = some m ∧ q m = true ∧ i < l.length ∧ ∀ j x, j < i → l[j]? = some x → q x = false
  | [] => .inl ⟨rfl, rfl, fun _ h => by simp at h⟩
  | x :: l => by
    by_cases hq : q x = true
    · refine .inr ⟨0, x, ?_, ?_, rfl, hq, by simp, fun j _ h => by omega⟩
      · unfold idxF; rw [if_pos hq]; rfl
      · rw [List.find?_cons, hq]
    · have hq' : q x = false := by simpa using hq
      rcases idxF_find (q := q) (l := l) with ⟨h1, h2, h3⟩ | ⟨i, m, h1, h2, h3, h4, h5, h6⟩
      · refine .inl ⟨?_, ?_, fun m hm => ?_⟩
        · unfold idxF; rw [if_neg hq, h1]; decide
        · rw [List.find?_cons, hq']; exact h2
        · rcases List.mem_cons.1 hm with rfl | hm
          · exact hq'
          · exact h3 m hm
      · refine .inr ⟨i + 1, m, ?_, ?_, h3, h4, by simp; omega, fun j y hj hy => ?_⟩
        · unfold idxF; rw [if_neg hq, h1, if_neg (by omega)]; push_cast; rfl
        · rw [List.find?_cons, hq']; exact h2
        · cases j with
          | zero => simp at hy; subst hy; exact hq'
          | succ j => exact h6 j y (by omega) (by simpa using hy)
def isId (n : Int) (m : MtM) : Bool := decide (m.id = n)
def stB (p : Pl) (m : MtM) : Bool := decide (m.id ≠ 0 ∧ m.am = p.1 ∧ m.ai = p.2)
def inB (n : Int) (m : MtM) : Bool := decide (m.id ≠ 0 ∧ m.am = n)
def usB (n : Int) (m : MtM) : Bool := decide (m.root = n ∨ m.id ≠ 0 ∧ m.ai = n)
/-- What is seen at a place: as many steps as may be. -/
def seenN : Nat → Ms → Pl → Pl
  | 0, _, p => p
  | k + 1, M, p => match M.find? (stB p) with | none => p | some m => seenN k M m.top
def seenF (M : Ms) (p : Pl) : Pl := seenN 20 M p
def downF (M : Ms) (p : Pl) : Option Pl := match M.find? (isId p.1) with | none => none | some m => if m.id ≠ 0 ∧ m.root = p.2 then some m.at_ else none
def bindE (M : Ms) (p : Pl) : Int := if M.find? (isId p.1) = none then 22 else if M.find? (stB p) ≠ none then 16 else if 16 ≤ M.length then 28 else 0
def dropE (M : Ms) (p : Pl) : Int := if downF M p = none then 22 else match M.find? (isId p.1) with | none => 22 | some m => if 0 < m.held ∨ M.any (inB p.1) = true then 16 else 0
def holdE (M : Ms) (n : Int) (more : Bool) : Int := match M.find? (isId n) with | none => 2 | some m => if more = true then 0 else if m.held = 0 then 22 else 0
def bindF (M : Ms) (id root : Int) (p : Pl) : Ms := M ++ [⟨id, p.1, p.2, root, 0⟩]
/-- One less, by its place. -/
def cutF (M : Ms) (i : Nat) : Ms := M.eraseIdx i
def heldM (M : Ms) (i : Nat) (m : MtM) (h : Int) : Ms := M.set i { m with held := h }
/-- What holds of all tables: numbers rise, from 0, up to the last one given; each stands at one that came ahead of it; no two at one place. -/
structure Fit (M : Ms) (last : Int) : Prop where
  ids : M.Pairwise fun a b => a.id < b.id
  ahead : ∀ m ∈ M, m.id ≠ 0 → m.am < m.id
  pos : ∀ m ∈ M, 0 ≤ m.id ∧ m.id ≤ last
  one : M.Pairwise fun a b => a.id ≠ 0 → b.id ≠ 0 → ¬ (a.am = b.am ∧ a.ai = b.ai)
  there : ∀ m ∈ M, m.id ≠ 0 → ∃ m' ∈ M, m'.id = m.am
  first : ∃ h M', M = ⟨0, 0, 0, 1, h⟩ :: M'
  len : M.length ≤ 16
  held : ∀ m ∈ M, 0 ≤ m.held
/-- How far places can still lead. -/
def mu (M : Ms) (p : Pl) : Nat := (M.filter fun m => decide (p.1 < m.id)).length
theorem mu_lt {M : Ms} {last : Int} (h : Fit M last) {p : Pl} {m : MtM} (hm : M.find? (stB p) = some m) : mu M m.top < mu M p := by
  have h1 := List.mem_of_find?_eq_some hm
  have h2 : stB p m = true := List.find?_some hm
  unfold stB at h2
  have h2 := of_decide_eq_true h2
  have ha := h.ahead m h1 h2.1
  unfold mu
  have hsub : (M.filter fun x => decide (m.top.1 < x.id)) = (M.filter fun x => decide (p.1 < x.id)).filter fun x => decide (m.id < x.id) := by
    rw [List.filter_filter]
    apply List.filter_congr
    intro x _
    show decide (m.id < x.id) = (decide (m.id < x.id) && decide (p.1 < x.id))
    by_cases e : m.id < x.id
    · rw [decide_eq_true e, decide_eq_true (show p.1 < x.id by omega)]; rfl
    · rw [decide_eq_false e]; rfl
  rw [hsub]
  have hmem : m ∈ M.filter fun x => decide (p.1 < x.id) := List.mem_filter.2 ⟨h1, decide_eq_true (by omega)⟩
  have key : ∀ (l : Ms), m ∈ l → (l.filter fun x => decide (m.id < x.id)).length < l.length := by
    intro l hl
    induction l with
    | nil => simp at hl
    | cons y l ih =>
      rw [List.filter_cons]
      rcases List.mem_cons.1 hl with rfl | hl
      · rw [if_neg (by simp)]
        have := List.length_filter_le (fun x : MtM => decide (m.id < x.id)) l
        simp; omega
      · have := ih hl
        split <;> simp only [List.length_cons] <;> omega
  exact key _ hmem
theorem mu_le (M : Ms) (p : Pl) : mu M p ≤ M.length := List.length_filter_le _ _
/-- With enough steps more are the same. -/
theorem seen_fix {M : Ms} {last : Int} (h : Fit M last) : ∀ (k j : Nat) (p : Pl), mu M p < k → mu M p < j → seenN k M p = seenN j M p
  | 0, _, _, h1, _ => absurd h1 (by omega)
  | k + 1, 0, _, _, h2 => absurd h2 (by omega)
  | k + 1, j + 1, p, h1, h2 => by
    unfold seenN
    cases e : M.find? (stB p) with
    | none => rfl
    | some m =>
      have := mu_lt h e
      exact seen_fix h k j m.top (by omega) (by omega)
theorem seen_none {M : Ms} {p : Pl} (h : M.find? (stB p) = none) : seenF M p = p := by unfold seenF seenN; rw [h]
theorem seen_some {M : Ms} {last : Int} (hf : Fit M last) {p : Pl} {m : MtM} (h : M.find? (stB p) = some m) : seenF M p = seenF M m.top := by
  have h1 : seenF M p = seenN 19 M m.top := by unfold seenF; rw [seenN, h]
  rw [h1]
  have := mu_lt hf h
  have := mu_le M p
  have := hf.len
  exact seen_fix hf 19 20 _ (by omega) (by omega)
/-- What is seen at a place at which one stands is another place. -/
theorem seen_gt {M : Ms} {last : Int} (hf : Fit M last) : ∀ (k : Nat) (p : Pl), p.1 ≤ (seenN k M p).1
  | 0, p => by unfold seenN; omega
  | k + 1, p => by
    unfold seenN
    cases e : M.find? (stB p) with
    | none => simp
    | some m =>
      have h1 := List.mem_of_find?_eq_some e
      have h2 : stB p m = true := List.find?_some e
      unfold stB at h2
      have h2 := of_decide_eq_true h2
      have := hf.ahead m h1 h2.1
      have := seen_gt hf k m.top
      show p.1 ≤ (seenN k M m.top).1
      have e2 : m.top.1 = m.id := rfl
      omega
theorem seen_ne {M : Ms} {last : Int} (hf : Fit M last) {p : Pl} : (seenF M p ≠ p) ↔ M.find? (stB p) ≠ none := by
  constructor
  · intro h e; exact h (seen_none e)
  · intro h e
    cases hm : M.find? (stB p) with
    | none => exact h hm
    | some m =>
      have h1 := List.mem_of_find?_eq_some hm
      have h2 : stB p m = true := List.find?_some hm
      unfold stB at h2
      have h2 := of_decide_eq_true h2
      have := hf.ahead m h1 h2.1
      rw [seen_some hf hm] at e
      have h3 := seen_gt hf 20 m.top
      have e2 : m.top.1 = m.id := rfl
      have : (seenF M m.top).1 = p.1 := by rw [e]
      unfold seenF at this
      omega
theorem fit_new : Fit [⟨0, 0, 0, 1, 0⟩] 0 :=
  ⟨by simp, fun m hm h => by simp at hm; subst hm; exact absurd rfl h, fun m hm => by simp at hm; subst hm; exact ⟨by decide, by decide⟩, by simp, fun m hm h => by simp at hm; subst hm; exact absurd rfl h, ⟨0, [], rfl⟩, by simp, fun m hm => by simp at hm; subst hm; decide⟩
theorem fit_bind {M : Ms} {last root : Int} {p : Pl} (h : Fit M last) (h1 : M.find? (isId p.1) ≠ none) (h2 : M.find? (stB p) = none) (h3 : M.length < 16) : Fit (bindF M (last + 1) root p) (last + 1) := by
  have hp : ∃ m' ∈ M, m'.id = p.1 := by
    cases e : M.find? (isId p.1) with
    | none => exact absurd e h1
    | some m' => exact ⟨m', List.mem_of_find?_eq_some e, by have := List.find?_some e; unfold isId at this; exact of_decide_eq_true this⟩
  obtain ⟨m', hm', hp⟩ := hp
  have hm2 := h.pos m' hm'
  unfold bindF
  refine ⟨?_, fun m hm h0 => ?_, fun m hm => ?_, ?_, fun m hm h0 => ?_, ?_, by simp; omega, fun m hm => ?_⟩
  · rw [List.pairwise_append]
    refine ⟨h.ids, by simp, fun a ha b hb => ?_⟩
    simp at hb; subst hb
    have := h.pos a ha
    show a.id < last + 1
    omega
  · rcases List.mem_append.1 hm with hm | hm
    · exact h.ahead m hm h0
    · simp at hm; subst hm; show p.1 < last + 1; omega
  · rcases List.mem_append.1 hm with hm | hm
    · have := h.pos m hm; omega
    · simp at hm; subst hm; show 0 ≤ last + 1 ∧ last + 1 ≤ last + 1; omega
  · rw [List.pairwise_append]
    refine ⟨h.one, by simp, fun a ha b hb h0 _ => ?_⟩
    simp at hb; subst hb
    rintro ⟨e1, e2⟩
    have := List.find?_eq_none.1 h2 a ha
    apply this
    unfold stB
    exact decide_eq_true ⟨h0, e1, e2⟩
  · rcases List.mem_append.1 hm with hm | hm
    · obtain ⟨x, hx, e⟩ := h.there m hm h0
      exact ⟨x, List.mem_append_left _ hx, e⟩
    · simp at hm; subst hm
      exact ⟨m', List.mem_append_left _ hm', hp⟩
  · obtain ⟨q, M', e⟩ := h.first
    exact ⟨q, M' ++ [⟨last + 1, p.1, p.2, root, 0⟩], by rw [e]; rfl⟩
  · rcases List.mem_append.1 hm with hm | hm
    · exact h.held m hm
    · simp at hm; subst hm; show (0 : Int) ≤ 0; decide
theorem fit_cut {M : Ms} {last : Int} {i : Nat} {m : MtM} (h : Fit M last) (h1 : M[i]? = some m) (h2 : m.id ≠ 0) (h3 : M.any (inB m.id) = false) : Fit (cutF M i) last := by
  have hs : (cutF M i).Sublist M := List.eraseIdx_sublist M i
  have hi := (List.getElem?_eq_some_iff.1 h1).1
  have keep : ∀ x ∈ M, x.id ≠ m.id → x ∈ cutF M i := fun x hx hne => by
    unfold cutF
    rw [List.mem_eraseIdx_iff_getElem?]
    obtain ⟨j, hj⟩ := List.mem_iff_getElem?.1 hx
    refine ⟨j, fun e => ?_, hj⟩
    subst e
    rw [h1] at hj; cases hj; exact hne rfl
  refine ⟨h.ids.sublist hs, fun x hx => h.ahead x (hs.subset hx), fun x hx => h.pos x (hs.subset hx), h.one.sublist hs, fun x hx h0 => ?_, ?_, Nat.le_trans hs.length_le h.len, fun x hx => h.held x (hs.subset hx)⟩
  · obtain ⟨y, hy, e⟩ := h.there x (hs.subset hx) h0
    refine ⟨y, keep y hy (fun e2 => ?_), e⟩
    have := (List.any_eq_false.1 h3) x (hs.subset hx)
    apply this
    unfold inB
    exact decide_eq_true ⟨h0, by omega⟩
  · obtain ⟨q, M', e⟩ := h.first
    cases i with
    | zero => rw [e] at h1; simp at h1; subst h1; exact absurd rfl h2
    | succ i => exact ⟨q, M'.eraseIdx i, by unfold cutF; rw [e]; rfl⟩
theorem heldM_get {M : Ms} {i : Nat} {m : MtM} {v : Int} (h1 : M[i]? = some m) : ∀ x ∈ heldM M i m v, ∃ y ∈ M, x.id = y.id ∧ x.am = y.am ∧ x.ai = y.ai ∧ x.root = y.root ∧ (x.held = y.held ∨ x.held = v) := by
  intro x hx
  rcases List.mem_or_eq_of_mem_set hx with hx | rfl
  · exact ⟨x, hx, rfl, rfl, rfl, rfl, .inl rfl⟩
  · exact ⟨m, List.mem_of_getElem? h1, rfl, rfl, rfl, rfl, .inr rfl⟩
theorem heldM_map {β : Type} {M : Ms} {i : Nat} {m : MtM} {v : Int} (f : MtM → β) (h1 : M[i]? = some m) (hf : f { m with held := v } = f m) : (heldM M i m v).map f = M.map f := by
  unfold heldM
  apply List.ext_getElem?
  intro j
  rw [List.getElem?_map, List.getElem?_map, List.getElem?_set]
  by_cases e : i = j
  · subst e
    rw [if_pos rfl, if_pos (List.getElem?_eq_some_iff.1 h1).1, h1]; simp [hf]
  · rw [if_neg e]
theorem pw_map {α β : Type} {R : β → β → Prop} (f : α → β) {l l' : List α} (h : l.map f = l'.map f) (hp : l.Pairwise fun a b => R (f a) (f b)) : l'.Pairwise fun a b => R (f a) (f b) := by
  rw [← List.pairwise_map] at hp ⊢
  rwa [← h]
theorem fit_held {M : Ms} {last v : Int} {i : Nat} {m : MtM} (h : Fit M last) (h1 : M[i]? = some m) (hv : 0 ≤ v) : Fit (heldM M i m v) last := by
  have hg := heldM_get (v := v) h1
  have e := heldM_map (v := v) (fun x : MtM => (x.id, x.am, x.ai, x.root)) h1 rfl
  refine ⟨pw_map (R := fun a b => a.1 < b.1) (fun x : MtM => (x.id, x.am, x.ai, x.root)) e.symm h.ids, fun x hx h0 => ?_, fun x hx => ?_, pw_map (R := fun a b => a.1 ≠ 0 → b.1 ≠ 0 → ¬ (a.2.1 = b.2.1 ∧ a.2.2.1 = b.2.2.1)) (fun x : MtM => (x.id, x.am, x.ai, x.root)) e.symm h.one, fun x hx h0 => ?_, ?_, by unfold heldM; simp [h.len], fun x hx => ?_⟩
  · obtain ⟨y, hy, e1, e2, _⟩ := hg x hx
    have := h.ahead y hy (by omega); omega
  · obtain ⟨y, hy, e1, e2, _⟩ := hg x hx
    have := h.pos y hy; omega
  · obtain ⟨y, hy, e1, e2, _⟩ := hg x hx
    obtain ⟨z, hz, e3⟩ := h.there y hy (by omega)
    have : (z.id, z.am, z.ai, z.root) ∈ (heldM M i m v).map (fun x : MtM => (x.id, x.am, x.ai, x.root)) := by rw [e]; exact List.mem_map.2 ⟨z, hz, rfl⟩
    obtain ⟨z', hz', e4⟩ := List.mem_map.1 this
    have e5 : z'.id = z.id := congrArg Prod.fst e4
    exact ⟨z', hz', by omega⟩
  · obtain ⟨q, M', eM⟩ := h.first
    cases i with
    | zero => rw [eM] at h1; simp at h1; subst h1; exact ⟨v, M', by unfold heldM; rw [eM]; rfl⟩
    | succ i => exact ⟨q, M'.set i { m with held := v }, by unfold heldM; rw [eM]; rfl⟩
  · obtain ⟨y, hy, _, _, _, _, e5⟩ := hg x hx
    have := h.held y hy; omega
end Go.Proofs.Ytmbgmbheonpamaa.Mt
