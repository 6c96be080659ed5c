/- A plan's cases, and that it decides what its policy says: by lists alone. -/
import Derived.Test.YtgdoampokcpagaaIrG
namespace Go.Proofs.Ytgdoampokcpagaa.Ir
open Go.Proofs.Ytgdoampokcpagaa.Me
def rulesOf (n : Nat) (l : List RuleM) : List RuleM := l.filter fun r => decide (r.num = n)
theorem rulesOf_snoc (n : Nat) (l : List RuleM) (r : RuleM) : rulesOf n (l ++ [r]) = if r.num = n then rulesOf n l ++ [r] else rulesOf n l := by
  unfold rulesOf
  rw [List.filter_append]
  by_cases h : r.num = n <;> simp [h]
def StI (l : List RuleM) : Option (List CaM × Nat × List BrM) → Prop
  | none => l = []
  | some (cs, num, lb) => (∃ r ∈ l, r.num = num) ∧ (∀ r ∈ l, r.num ≤ num) ∧ lb = (rulesOf num l).foldl addF [] ∧ (∀ c ∈ cs, c.num < num ∧ (∃ r ∈ l, r.num = c.num) ∧ c.brs = (rulesOf c.num l).foldl addF []) ∧ cs.Pairwise (fun a b => a.num < b.num) ∧ ∀ r ∈ l, r.num = num ∨ ∃ c ∈ cs, c.num = r.num
theorem st_step {l : List RuleM} {s : Option (List CaM × Nat × List BrM)} {r : RuleM} (h : StI l s) (hr : ∀ q ∈ l, q.num ≤ r.num) : StI (l ++ [r]) (stF s r) := by
  cases s with
  | none =>
    have h0 : l = [] := h
    subst h0
    refine ⟨⟨r, by simp, rfl⟩, by simp, ?_, by simp, List.Pairwise.nil, by simp⟩
    rw [rulesOf_snoc, if_pos rfl]; rfl
  | some x =>
    obtain ⟨cs, num, lb⟩ := x
    obtain ⟨⟨q, hq, hqn⟩, h2, h3, h4, h5, h6⟩ := h
    by_cases hn : r.num = num
    · have e : stF (some (cs, num, lb)) r = some (cs, num, addF lb r) := if_pos hn
      rw [e]
      refine ⟨⟨r, by simp, hn⟩, fun p hp => ?_, ?_, fun c hc => ?_, h5, fun p hp => ?_⟩
      · rcases List.mem_append.1 hp with hp | hp
        · exact h2 p hp
        · rw [List.mem_singleton.1 hp]; omega
      · rw [rulesOf_snoc, if_pos hn, List.foldl_append, ← h3]; rfl
      · obtain ⟨g1, ⟨p, g2, g3⟩, g4⟩ := h4 c hc
        refine ⟨g1, ⟨p, List.mem_append_left _ g2, g3⟩, ?_⟩
        rw [rulesOf_snoc, if_neg (by omega)]; exact g4
      · rcases List.mem_append.1 hp with hp | hp
        · exact h6 p hp
        · rw [List.mem_singleton.1 hp]; exact Or.inl hn
    · have hlt : num < r.num := by have := hr q hq; omega
      have e : stF (some (cs, num, lb)) r = some (cs ++ [⟨num, lb⟩], r.num, addF [] r) := if_neg hn
      rw [e]
      have hno : rulesOf r.num l = [] := List.filter_eq_nil_iff.2 fun p hp => by have := h2 p hp; simp only [decide_eq_true_eq]; omega
      refine ⟨⟨r, by simp, rfl⟩, fun p hp => ?_, ?_, fun c hc => ?_, ?_, fun p hp => ?_⟩
      · rcases List.mem_append.1 hp with hp | hp
        · have := h2 p hp; omega
        · rw [List.mem_singleton.1 hp]; omega
      · rw [rulesOf_snoc, if_pos rfl, hno]; rfl
      · rcases List.mem_append.1 hc with hc | hc
        · obtain ⟨g1, ⟨p, g2, g3⟩, g4⟩ := h4 c hc
          refine ⟨by omega, ⟨p, List.mem_append_left _ g2, g3⟩, ?_⟩
          rw [rulesOf_snoc, if_neg (by omega)]; exact g4
        · rw [List.mem_singleton.1 hc]
          refine ⟨hlt, ⟨q, List.mem_append_left _ hq, hqn⟩, ?_⟩
          show lb = _
          rw [rulesOf_snoc, if_neg (by simp only; omega)]; exact h3
      · rw [List.pairwise_append]
        refine ⟨h5, List.pairwise_singleton _ _, fun a ha b hb => ?_⟩
        rw [List.mem_singleton.1 hb]; exact (h4 a ha).1
      · rcases List.mem_append.1 hp with hp | hp
        · rcases h6 p hp with g | ⟨c, g1, g2⟩
          · exact Or.inr ⟨⟨num, lb⟩, by simp, g.symm⟩
          · exact Or.inr ⟨c, List.mem_append_left _ g1, g2⟩
        · rw [List.mem_singleton.1 hp]; exact Or.inl rfl
theorem st_fold : ∀ (t l : List RuleM) (s : Option (List CaM × Nat × List BrM)), StI l s → (l ++ t).Pairwise (fun a b => a.num ≤ b.num) → StI (l ++ t) (t.foldl stF s)
  | [], l, s, h, _ => by simpa using h
  | r :: t, l, s, h, hp => by
    have e : l ++ r :: t = (l ++ [r]) ++ t := by simp
    rw [e] at hp ⊢
    exact st_fold t (l ++ [r]) _ (st_step h fun q hq => (List.pairwise_append.1 (List.pairwise_append.1 hp).1).2.2 q hq r (by simp)) hp
/-- The cases of sorted rules. -/
theorem of_cases {l : List RuleM} (hp : l.Pairwise (fun a b => a.num ≤ b.num)) : (ofF l).Pairwise (fun a b => a.num < b.num) ∧ (∀ c ∈ ofF l, (∃ r ∈ l, r.num = c.num) ∧ c.brs = (rulesOf c.num l).foldl addF []) ∧ ∀ r ∈ l, ∃ c ∈ ofF l, c.num = r.num := by
  have h := st_fold l [] none rfl (by simpa using hp)
  rw [List.nil_append] at h
  unfold ofF
  cases hs : l.foldl stF none with
  | none => rw [hs] at h; have h0 : l = [] := h; subst h0; exact ⟨List.Pairwise.nil, by simp [stE], by simp⟩
  | some x =>
    obtain ⟨cs, num, lb⟩ := x
    rw [hs] at h
    obtain ⟨h1, h2, h3, h4, h5, h6⟩ := h
    refine ⟨List.pairwise_append.2 ⟨h5, List.pairwise_singleton _ _, fun a ha b hb => ?_⟩, fun c hc => ?_, fun r hr => ?_⟩
    · rw [List.mem_singleton.1 hb]; exact (h4 a ha).1
    · rcases List.mem_append.1 hc with hc | hc
      · exact (h4 c hc).2
      · rw [List.mem_singleton.1 hc]; exact ⟨h1, h3⟩
    · rcases h6 r hr with g | ⟨c, g1, g2⟩
      · exact ⟨⟨num, lb⟩, by simp [stE], g.symm⟩
      · exact ⟨c, List.mem_append_left _ g1, g2⟩
theorem sorted_num {ms l : List RuleM} (h : Sorted ms l) : l.Pairwise (fun a b => a.num ≤ b.num) := h.srt.imp fun {a b} hab => by
  rw [ord_lt] at hab; omega
theorem sorted_first {ms l : List RuleM} (h : Sorted ms l) (x : RcM) (s : Nat) : firstS x s l = firstS x s ms := by
  have key : ∀ q : List RuleM, firstS x s q = (q.filter fun r => decide (r.num = x.num ∧ Rec.strN r.act = s)).find? fun r => matB r x := fun q => by
    unfold firstS
    rw [List.find?_filter]
    congr 1
    funext r
    unfold matB
    rw [Bool.eq_iff_iff]
    simp only [Bool.and_eq_true, decide_eq_true_eq]
    exact ⟨fun ⟨a, b, c⟩ => ⟨⟨b, a⟩, b, c⟩, fun ⟨⟨a, b⟩, _, c⟩ => ⟨b, a, c⟩⟩
  rw [key, key, h.stab]
theorem sorted_hit {ms l : List RuleM} (h : Sorted ms l) (x : RcM) (d : Nat) : ((l.find? fun r => matB r x).map RuleM.act).getD d = bestA d (bestL x 0 ms none) := by
  cases hf : l.find? fun r => matB r x with
  | none =>
    have hno := List.find?_eq_none.1 hf
    refine (ref_none d fun t _ _ => ?_).symm
    rw [← sorted_first h x t]
    unfold firstS
    rw [List.find?_eq_none]
    intro r hr hc
    rw [Bool.and_eq_true] at hc
    exact hno r hr hc.2
  | some r =>
    obtain ⟨hm, us, vs, hl, has⟩ := List.find?_eq_some_iff_append.1 hf
    have hsrt := h.srt
    rw [hl] at hsrt
    obtain ⟨_, p2, _⟩ := List.pairwise_append.1 hsrt
    have p3 := (List.pairwise_cons.1 p2).1
    have hrn : r.num = x.num := by unfold matB at hm; simp at hm; exact hm.1
    refine (ref_found (s := Rec.strN r.act) d (fun t ht _ => ?_) ?_).symm
    · rw [← sorted_first h x t]
      unfold firstS
      rw [List.find?_eq_none]
      intro q hq hc
      rw [Bool.and_eq_true, decide_eq_true_eq] at hc
      rw [hl] at hq
      rcases List.mem_append.1 hq with hq | hq
      · have := has q hq; rw [hc.2] at this; simp at this
      · rcases List.mem_cons.1 hq with rfl | hq
        · omega
        · apply p3 q hq
          rw [ord_lt]
          have hqn : q.num = x.num := by have := hc.2; unfold matB at this; simp at this; exact this.1
          exact Or.inr ⟨by omega, by omega⟩
    · rw [← sorted_first h x _]
      unfold firstS
      rw [List.find?_eq_some_iff_append]
      exact ⟨by simp [hm], us, vs, hl, fun q hq => by have := has q hq; simp only [Bool.not_eq_true'] at this ⊢; rw [this, Bool.and_false]⟩
theorem rulesOf_says (x : RcM) (l : List RuleM) : ruS x (rulesOf x.num l) = (l.find? fun r => matB r x).map RuleM.act := by
  unfold ruS rulesOf
  rw [List.find?_filter]
  congr 2
  funext r
  unfold matB HoldsAll
  rw [Bool.eq_iff_iff]
  simp only [Bool.and_eq_true, decide_eq_true_eq]
/-- A plan decides what its policy says. -/
theorem plan_says {ms l : List RuleM} (h : Sorted ms l) {x : RcM} (hx : x.ok) (d : Nat) : (∀ c ∈ ofF l, c.num = x.num → (brS x c.brs).getD d = bestA d (bestL x 0 ms none)) ∧ ((∀ c ∈ ofF l, c.num ≠ x.num) → d = bestA d (bestL x 0 ms none)) := by
  obtain ⟨_, h2, h3⟩ := of_cases (sorted_num h)
  refine ⟨fun c hc hcx => ?_, fun hno => ?_⟩
  · rw [(h2 c hc).2, hcx, fold_says hx, rulesOf_says]
    show (((l.find? fun r => matB r x).map RuleM.act)).getD d = _
    exact sorted_hit h x d
  · rw [← sorted_hit h x d, List.find?_eq_none.2 (fun r hr hm => ?_)]
    · rfl
    · obtain ⟨c, hc, hcn⟩ := h3 r hr
      have : r.num = x.num := by unfold matB at hm; simp at hm; exact hm.1
      exact hno c hc (hcn.trans this)
end Go.Proofs.Ytgdoampokcpagaa.Ir

