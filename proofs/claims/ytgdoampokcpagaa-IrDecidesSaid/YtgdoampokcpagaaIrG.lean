/- A plan decides what its policy says: by lists alone. -/
import Derived.Test.YtgdoampokcpagaaIrF
import Derived.Test.YtgdoampokcpagaaMeT
namespace Go.Proofs.Ytgdoampokcpagaa.Ir
open Go.Proofs.Ytgdoampokcpagaa.Me
def HoldsAll (x : RcM) (l : List CondM) : Bool := l.all fun q => holdB q x
theorem arg_lt {x : RcM} (hx : x.ok) (k : Nat) : x.arg k < 18446744073709551616 := by
  unfold RcM.arg RcM.args
  match k with
  | 0 => exact hx.a0
  | 1 => exact hx.a1
  | 2 => exact hx.a2
  | 3 => exact hx.a3
  | 4 => exact hx.a4
  | 5 => exact hx.a5
  | _ + 6 => simp
theorem never_no {c : CondM} {x : RcM} (hx : x.ok) (h : neverB c = true) : holdB c x = false := by
  have ha := arg_lt hx c.arg.toNat
  unfold neverB at h
  rw [decide_eq_true_eq] at h
  unfold holdB
  split
  · rfl
  · rcases h with ⟨h1, h2⟩ | ⟨h1, h2⟩ <;> unfold opB <;> simp [h1, h2] <;> omega
theorem always_yes {c : CondM} {x : RcM} (hx : x.ok) (h : alwaysB c = true) : holdB c x = true := by
  have ha := arg_lt hx c.arg.toNat
  unfold alwaysB at h
  rw [decide_eq_true_eq] at h
  obtain ⟨g1, g2, h⟩ := h
  unfold holdB
  rw [if_neg (by omega)]
  rcases h with ⟨h1, h2⟩ | ⟨h1, h2⟩ <;> unfold opB <;> simp [h1, h2] <;> omega
theorem eq_hold {c : CondM} {x : RcM} (ho : c.op = 1) (h : holdB c x = true) : x.arg c.arg.toNat = c.val := by
  unfold holdB at h
  split at h
  · cases h
  · unfold opB at h; rw [if_pos ho] at h; exact of_decide_eq_true h
theorem need_hold {x : RcM} (hx : x.ok) : ∀ (l : List CondM) (E : List (Int × Nat)) (left : List CondM), (∀ e ∈ E, HoldsAll x left = true → x.arg e.1.toNat = e.2) → (∀ e ∈ E, ∃ c ∈ left, c.op = 1 ∧ c.arg = e.1 ∧ c.val = e.2) →
    match needF E left l with
    | none => (HoldsAll x left && HoldsAll x l) = false
    | some r => HoldsAll x r = (HoldsAll x left && HoldsAll x l)
  | [], E, left, _, _ => by simp [needF, HoldsAll]
  | c :: r, E, left, hE, hE2 => by
    unfold needF
    by_cases hn : neverB c = true
    · rw [if_pos hn]
      simp [HoldsAll, never_no hx hn]
    · rw [if_neg hn]
      have hstep : HoldsAll x (if c ∈ left ∨ alwaysB c = true then left else left ++ [c]) = (HoldsAll x left && holdB c x) := by
        by_cases hc : c ∈ left ∨ alwaysB c = true
        · rw [if_pos hc]
          rcases hc with hc | hc
          · cases h : HoldsAll x left with
            | false => rfl
            | true => rw [Bool.true_and]; exact (List.all_eq_true.1 h c hc).symm
          · rw [always_yes hx hc, Bool.and_true]
        · rw [if_neg hc]; simp [HoldsAll]
      have hsp : (HoldsAll x left && HoldsAll x (c :: r)) = (HoldsAll x (if c ∈ left ∨ alwaysB c = true then left else left ++ [c]) && HoldsAll x r) := by
        rw [hstep]; simp [HoldsAll, Bool.and_assoc]
      have hal : c.op = 1 → alwaysB c = false := fun ho => by unfold alwaysB; rw [decide_eq_false_iff_not]; omega
      by_cases ho : c.op = 1
      · rw [if_pos ho]
        by_cases hm : (c.arg, c.val) ∈ E ∨ ∀ e ∈ E, e.1 ≠ c.arg
        · rw [if_pos hm, hsp]
          have hin : c ∈ (if c ∈ left ∨ alwaysB c = true then left else left ++ [c]) := by
            by_cases hc : c ∈ left ∨ alwaysB c = true
            · rw [if_pos hc]; rcases hc with hc | hc
              · exact hc
              · rw [hal ho] at hc; cases hc
            · rw [if_neg hc]; simp
          have hsub : ∀ d ∈ left, d ∈ (if c ∈ left ∨ alwaysB c = true then left else left ++ [c]) := fun d hd => by
            by_cases hc : c ∈ left ∨ alwaysB c = true
            · rw [if_pos hc]; exact hd
            · rw [if_neg hc]; exact List.mem_append_left _ hd
          refine need_hold hx r _ _ (fun e he hh => ?_) (fun e he => ?_)
          · rcases List.mem_append.1 he with he | he
            · exact hE e he (List.all_eq_true.2 fun d hd => List.all_eq_true.1 hh d (hsub d hd))
            · obtain rfl := List.mem_singleton.1 he
              exact eq_hold ho (List.all_eq_true.1 hh c hin)
          · rcases List.mem_append.1 he with he | he
            · obtain ⟨d, hd, h⟩ := hE2 e he
              exact ⟨d, hsub d hd, h⟩
            · obtain rfl := List.mem_singleton.1 he
              exact ⟨c, hin, ho, rfl, rfl⟩
        · rw [if_neg hm]
          simp only
          cases hL : HoldsAll x left with
          | false => rfl
          | true =>
            cases hc : holdB c x with
            | false => simp [HoldsAll, hc]
            | true =>
              exfalso
              apply hm
              by_cases h1 : ∀ e ∈ E, e.1 ≠ c.arg
              · exact Or.inr h1
              · obtain ⟨e, h3⟩ := Classical.not_forall.1 h1
                obtain ⟨h4, h5⟩ := Classical.not_imp.1 h3
                have h6 : e.1 = c.arg := Classical.not_not.1 h5
                have h7 := hE e h4 hL
                rw [h6, eq_hold ho hc] at h7
                exact Or.inl (by rw [← h6, h7]; exact h4)
      · rw [if_neg ho, hsp]
        have hsub : ∀ d ∈ left, d ∈ (if c ∈ left ∨ alwaysB c = true then left else left ++ [c]) := fun d hd => by
          by_cases hc : c ∈ left ∨ alwaysB c = true
          · rw [if_pos hc]; exact hd
          · rw [if_neg hc]; exact List.mem_append_left _ hd
        refine need_hold hx r _ _ (fun e he hh => ?_) (fun e he => ?_)
        · exact hE e he (List.all_eq_true.2 fun d hd => List.all_eq_true.1 hh d (hsub d hd))
        · obtain ⟨d, hd, h⟩ := hE2 e he
          exact ⟨d, hsub d hd, h⟩
theorem need_is {x : RcM} (hx : x.ok) (l : List CondM) : match needF [] [] l with | none => HoldsAll x l = false | some r => HoldsAll x r = HoldsAll x l := by
  have h := need_hold hx l [] [] (by simp) (by simp)
  cases hF : needF [] [] l with
  | none => rw [hF] at h; simpa [HoldsAll] using h
  | some r => rw [hF] at h; simpa [HoldsAll] using h
/-- What branches, rules say of a call: the first whose conditions hold. -/
def brS (x : RcM) (l : List BrM) : Option Nat := (l.find? fun b => HoldsAll x b.conds).map BrM.act
def ruS (x : RcM) (l : List RuleM) : Option Nat := (l.find? fun r => HoldsAll x r.conds).map RuleM.act
theorem full_some {x : RcM} {l : List BrM} (h : fullB l = true) : (brS x l).isSome = true := by
  unfold fullB at h
  cases hl : l.getLast? with
  | none => rw [hl] at h; cases h
  | some b =>
    rw [hl] at h
    have hb := List.mem_of_getLast? hl
    have hc : b.conds = [] := by simpa using h
    unfold brS
    rw [Option.isSome_map, List.find?_isSome]
    exact ⟨b, hb, by rw [hc]; rfl⟩
theorem add_says {x : RcM} (hx : x.ok) (l : List BrM) (r : RuleM) : brS x (addF l r) = (brS x l).or (if HoldsAll x r.conds then some r.act else none) := by
  unfold addF
  by_cases hf : fullB l = true
  · rw [if_pos hf]
    obtain ⟨a, ha⟩ := Option.isSome_iff_exists.1 (full_some (x := x) hf)
    rw [ha]; rfl
  · rw [if_neg hf]
    have h := need_is hx r.conds
    cases hF : needF [] [] r.conds with
    | none => rw [hF] at h; simp only at h; rw [h]; simp
    | some left =>
      rw [hF] at h
      simp only at h
      show brS x (l ++ [⟨left, r.act⟩]) = _
      unfold brS
      rw [List.find?_append, Option.map_or]
      congr 1
      simp only [List.find?_cons, List.find?_nil, h]
      cases HoldsAll x r.conds <;> rfl
theorem fold_says {x : RcM} (hx : x.ok) : ∀ (rs : List RuleM) (l : List BrM), brS x (rs.foldl addF l) = (brS x l).or (ruS x rs)
  | [], l => by simp [ruS]
  | r :: t, l => by
    rw [List.foldl_cons, fold_says hx t, add_says hx, Option.or_assoc]
    congr 1
    unfold ruS
    rw [List.find?_cons]
    cases HoldsAll x r.conds <;> rfl
end Go.Proofs.Ytgdoampokcpagaa.Ir

