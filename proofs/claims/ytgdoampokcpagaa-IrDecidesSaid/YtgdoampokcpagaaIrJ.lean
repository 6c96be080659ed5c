/- A plan in memory decides what its policy says. -/
import Derived.Test.YtgdoampokcpagaaIrH
import Derived.Test.YtgdoampokcpagaaIrD
namespace Go.Proofs.Ytgdoampokcpagaa.Ir
open Go.Proofs.Ytgdoampokcpagaa.Me Go.RowKit
theorem asc_of {ms l : List RuleM} {cs : List CaV} (h : Sorted ms l) (e : cs.map CaV.m = ofF l) : Asc cs := fun i j c d hij hc hd => by
  have hp := (of_cases (sorted_num h)).1
  rw [← e, List.pairwise_map] at hp
  obtain ⟨h1, rfl⟩ := List.getElem?_eq_some_iff.1 hc
  obtain ⟨h2, rfl⟩ := List.getElem?_eq_some_iff.1 hd
  exact List.pairwise_iff_getElem.1 hp i j h1 h2 hij
theorem brF_is (d : Nat) (brs : List BrV) (x : RcM) : brF d brs x = (brS x (brs.map BrV.m)).getD d := by
  unfold brF brS
  rw [List.find?_map, Option.map_map]
  show (match brs.find? (allH x) with | some b => b.m.act | none => d) = ((brs.find? (allH x)).map _).getD d
  cases brs.find? (allH x) <;> rfl
theorem dec_says {ms l : List RuleM} {cs : List CaV} (h : Sorted ms l) (e : cs.map CaV.m = ofF l) {x : RcM} (hx : x.ok) {d r : Nat} (hr : DecR d cs x r) : r = saysR d ms x := by
  unfold saysR
  rcases hr with ⟨h1, h2⟩ | ⟨h1, h2⟩
  · rw [if_neg h1]; exact h2
  · rw [if_pos h1]
    obtain ⟨p1, p2⟩ := plan_says h hx d
    rcases h2 with ⟨c, hc, hcx, hr⟩ | ⟨hno, hr⟩
    · rw [hr, brF_is]
      exact p1 c.m (by rw [← e]; exact List.mem_map.2 ⟨c, hc, rfl⟩) hcx
    · rw [hr]
      refine p2 fun c hc => ?_
      rw [← e] at hc
      obtain ⟨c', hc', rfl⟩ := List.mem_map.1 hc
      exact hno c' hc'
/-- How long the branches of a plan are, and that their conditions may be. -/
theorem need_sub : ∀ (l : List CondM) (E : List (Int × Nat)) (left r : List CondM), needF E left l = some r → r.length ≤ left.length + l.length ∧ ∀ c ∈ r, c ∈ left ∨ c ∈ l
  | [], E, left, r, h => by
    unfold needF at h
    cases h
    exact ⟨by simp, fun c hc => Or.inl hc⟩
  | c :: t, E, left, r, h => by
    have hs : (if c ∈ left ∨ alwaysB c = true then left else left ++ [c]).length ≤ left.length + 1 ∧ ∀ d ∈ (if c ∈ left ∨ alwaysB c = true then left else left ++ [c]), d ∈ left ∨ d = c := by
      split
      · exact ⟨by omega, fun d hd => Or.inl hd⟩
      · exact ⟨by simp, fun d hd => (List.mem_append.1 hd).imp id List.mem_singleton.1⟩
    have done : ∀ E', needF E' (if c ∈ left ∨ alwaysB c = true then left else left ++ [c]) t = some r → r.length ≤ left.length + (c :: t).length ∧ ∀ d ∈ r, d ∈ left ∨ d ∈ c :: t := fun E' h' => by
      obtain ⟨h1, h2⟩ := need_sub t _ _ r h'
      refine ⟨by have := hs.1; rw [List.length_cons]; omega, fun d hd => ?_⟩
      rcases h2 d hd with g | g
      · rcases hs.2 d g with g | g
        · exact Or.inl g
        · exact Or.inr (by rw [g]; exact List.mem_cons_self)
      · exact Or.inr (List.mem_cons_of_mem _ g)
    unfold needF at h
    split at h
    · cases h
    · split at h
      · split at h
        · exact done _ h
        · cases h
      · exact done _ h
theorem add_sub (l : List BrM) (r : RuleM) : (addF l r).length ≤ l.length + 1 ∧ ∀ b ∈ addF l r, b ∈ l ∨ (b.act = r.act ∧ b.conds.length ≤ r.conds.length ∧ ∀ c ∈ b.conds, c ∈ r.conds) := by
  refine ⟨addF_len l r, fun b hb => ?_⟩
  unfold addF at hb
  split at hb
  · exact Or.inl hb
  · cases hF : needF [] [] r.conds with
    | none => rw [hF] at hb; exact Or.inl hb
    | some left =>
      rw [hF] at hb
      obtain ⟨h1, h2⟩ := need_sub _ _ _ _ hF
      rcases List.mem_append.1 hb with hb | hb
      · exact Or.inl hb
      · rw [List.mem_singleton.1 hb]
        exact Or.inr ⟨rfl, by simpa using h1, fun c hc => (h2 c hc).elim (fun h => by simp at h) id⟩
theorem fold_sub : ∀ (rs : List RuleM) (l : List BrM), (rs.foldl addF l).length ≤ l.length + rs.length ∧ ∀ b ∈ rs.foldl addF l, b ∈ l ∨ ∃ r ∈ rs, b.act = r.act ∧ b.conds.length ≤ r.conds.length ∧ ∀ c ∈ b.conds, c ∈ r.conds
  | [], l => ⟨by simp, fun b hb => Or.inl hb⟩
  | r :: t, l => by
    obtain ⟨h1, h2⟩ := fold_sub t (addF l r)
    obtain ⟨g1, g2⟩ := add_sub l r
    refine ⟨by rw [List.foldl_cons, List.length_cons]; omega, fun b hb => ?_⟩
    rcases h2 b hb with h | ⟨q, hq, h⟩
    · rcases g2 b h with h | h
      · exact Or.inl h
      · exact Or.inr ⟨r, by simp, h⟩
    · exact Or.inr ⟨q, List.mem_cons_of_mem _ hq, h⟩
/-- A plan's branches are of its policy's rules. -/
theorem plan_sub {ms l : List RuleM} (h : Sorted ms l) : ∀ c ∈ ofF l, c.brs.length ≤ ms.length ∧ ∀ b ∈ c.brs, ∃ r ∈ ms, r.num = c.num ∧ b.act = r.act ∧ b.conds.length ≤ r.conds.length ∧ ∀ q ∈ b.conds, q ∈ r.conds := fun c hc => by
  obtain ⟨_, h2, _⟩ := of_cases (sorted_num h)
  obtain ⟨_, e⟩ := h2 c hc
  obtain ⟨g1, g2⟩ := fold_sub (rulesOf c.num l) []
  rw [← e] at g1 g2
  refine ⟨?_, fun b hb => ?_⟩
  · have h3 : (rulesOf c.num l).length ≤ l.length := List.length_filter_le _ _
    rw [h.len] at h3
    simp at g1
    omega
  · rcases g2 b hb with g | ⟨r, hr, g⟩
    · simp at g
    · obtain ⟨h3, h4⟩ := List.mem_filter.1 hr
      exact ⟨r, h.mem r h3, of_decide_eq_true h4, g⟩
theorem plan_len {ms l : List RuleM} (h : Sorted ms l) : (ofF l).length ≤ ms.length := by
  have e := st_len' l none
  rw [← h.len]
  unfold ofF
  cases hs : l.foldl stF none with
  | none => simp [stE]
  | some x => rw [hs] at e; simp only at e; simp [stE]; omega
end Go.Proofs.Ytgdoampokcpagaa.Ir

