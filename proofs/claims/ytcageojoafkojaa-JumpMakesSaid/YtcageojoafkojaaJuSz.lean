/- A comparison as far from where it goes as may be, and further: lists alone. -/
import Derived.Test.YtcageojoafkojaaJuS
import Derived.Test.YtcageojoafkojaaJv
namespace Go.Proofs.Ytcageojoafkojaa.Ju
def szHead (c : Nat) : PtM := ⟨3, 1, 2, ⟨c, 0, 0, 5⟩⟩
def szOne (a b i : Nat) : List PtM := (if i = a then [hereP 1] else []) ++ ((if i = b then [hereP 2] else []) ++ [retP i])
def szBody (a b : Nat) : Nat → Nat → List PtM
  | _, 0 => []
  | i, d + 1 => szOne a b i ++ szBody a b (i + 1) d
def retI (k : Nat) : Ins := ⟨6, 0, 0, k⟩
def rets : Nat → Nat → List Ins
  | _, 0 => []
  | i, d + 1 => retI i :: rets (i + 1) d
theorem rets_len : ∀ d i : Nat, (rets i d).length = d
  | 0, _ => rfl
  | d + 1, i => by unfold rets; rw [List.length_cons, rets_len d]
theorem rets_at : ∀ (d i k : Nat), k < d → (rets i d)[k]? = some (retI (i + k))
  | 0, _, _, h => by omega
  | d + 1, i, 0, _ => rfl
  | d + 1, i, k + 1, h => by unfold rets; rw [List.getElem?_cons_succ, rets_at d (i + 1) k (by omega)]; congr 2; omega
theorem body_make (a b : Nat) : ∀ d i : Nat, a < i + d → b < i + d → i + d ≤ 700 → ∃ bh, makeF (szBody a b i d) = (0, ⟨rets i d, bh⟩) ∧ lk 1 bh = (if i ≤ a then some (i + d - a) else none) ∧ lk 2 bh = (if i ≤ b then some (i + d - b) else none)
  | 0, i, ha, hb, _ => ⟨[], rfl, by rw [if_neg (by omega)]; rfl, by rw [if_neg (by omega)]; rfl⟩
  | d + 1, i, ha, hb, hn => by
    obtain ⟨bh, h1, h2, h3⟩ := body_make a b d (i + 1) (by omega) (by omega) (by omega)
    have e0 := step_plain (p := retP i) (l := szBody a b (i + 1) d) (by rw [h1]) rfl (by show 6 % 8 ≠ 5; decide) (by rw [h1]; show (rets (i + 1) d).length + 1 ≤ 4096; rw [rets_len]; omega)
    rw [h1] at e0
    have e1 : makeF (retP i :: szBody a b (i + 1) d) = (0, ⟨rets i (d + 1), bh⟩) := e0
    have hlen : (rets i (d + 1)).length = d + 1 := rets_len _ _
    have h2' : lk 1 bh = (if i + 1 ≤ a then some (i + (d + 1) - a) else none) := by rw [h2]; congr 2; omega
    have h3' : lk 2 bh = (if i + 1 ≤ b then some (i + (d + 1) - b) else none) := by rw [h3]; congr 2; omega
    -- the second name
    obtain ⟨bh2, f1, f2, f3⟩ : ∃ bh2, makeF ((if i = b then [hereP 2] else []) ++ [retP i] ++ szBody a b (i + 1) d) = (0, ⟨rets i (d + 1), bh2⟩) ∧ lk 1 bh2 = lk 1 bh ∧ lk 2 bh2 = (if i ≤ b then some (i + (d + 1) - b) else none) := by
      by_cases hib : i = b
      · rw [if_pos hib]
        have hn2 : lk (hereP 2).to (makeF (retP i :: szBody a b (i + 1) d)).2.bh = none := by rw [e1]; show lk 2 bh = none; rw [h3', if_neg (by omega)]
        have e2 := step_here (p := hereP 2) (l := retP i :: szBody a b (i + 1) d) (by rw [e1]) rfl hn2 (by rw [e1]; show (rets i (d + 1)).length ≤ 4096; omega)
        rw [e1] at e2
        refine ⟨(2, d + 1) :: bh, ?_, ?_, ?_⟩
        · show makeF (hereP 2 :: retP i :: szBody a b (i + 1) d) = _
          rw [e2]
          show ((0, ⟨rets i (d + 1), (2, (rets i (d + 1)).length) :: bh⟩) : Nat × CdM) = _
          rw [hlen]
        · rw [lk_cons, if_neg (by decide)]
        · rw [lk_cons, if_pos rfl, if_pos (by omega)]; congr 1; omega
      · rw [if_neg hib]
        refine ⟨bh, e1, rfl, ?_⟩
        rw [h3']
        by_cases h : i + 1 ≤ b
        · rw [if_pos h, if_pos (by omega)]
        · rw [if_neg h, if_neg (by omega)]
    obtain ⟨R, hR⟩ : ∃ R, R = (if i = b then [hereP 2] else []) ++ [retP i] ++ szBody a b (i + 1) d := ⟨_, rfl⟩
    rw [← hR] at f1
    have eL : szBody a b i (d + 1) = (if i = a then [hereP 1] else []) ++ R := by rw [hR]; show szOne a b i ++ _ = _; unfold szOne; simp only [List.append_assoc]
    rw [eL]
    by_cases hia : i = a
    · rw [if_pos hia]
      have hn1 : lk (hereP 1).to (makeF R).2.bh = none := by rw [f1]; show lk 1 bh2 = none; rw [f2, h2', if_neg (by omega)]
      have e2 := step_here (p := hereP 1) (l := R) (by rw [f1]) rfl hn1 (by rw [f1]; show (rets i (d + 1)).length ≤ 4096; omega)
      rw [f1] at e2
      refine ⟨(1, d + 1) :: bh2, ?_, ?_, ?_⟩
      · show makeF (hereP 1 :: R) = _
        rw [e2]
        show ((0, ⟨rets i (d + 1), (1, (rets i (d + 1)).length) :: bh2⟩) : Nat × CdM) = _
        rw [hlen]
      · rw [lk_cons, if_pos rfl, if_pos (by omega)]; congr 1; omega
      · rw [lk_cons, if_neg (by decide)]; exact f3
    · rw [if_neg hia]
      refine ⟨bh2, f1, ?_, f3⟩
      rw [f2, h2']
      by_cases h : i + 1 ≤ a
      · rw [if_pos h, if_pos (by omega)]
      · rw [if_neg h, if_neg (by omega)]
/-- The code of it. -/
def szCode (c a b m : Nat) : List Ins :=
  if b ≤ 253 then (if a ≤ 253 then ⟨c, a, b, 5⟩ :: rets 0 m else ⟨c, 0, b + 1, 5⟩ :: skipI a :: rets 0 m)
  else (if a + 1 ≤ 253 then ⟨c, a + 1, 0, 5⟩ :: skipI b :: rets 0 m else ⟨c, 0, 1, 5⟩ :: skipI (a + 1) :: skipI b :: rets 0 m)
theorem sz_make (c a b m : Nat) (hc : c = 21 ∨ c = 69) (ha : a < m) (hb : b < m) (hm : m ≤ 700) : (makeF (szHead c :: szBody a b 0 m)).1 = 0 ∧ (makeF (szHead c :: szBody a b 0 m)).2.ins = szCode c a b m := by
  obtain ⟨bh, h1, h2, h3⟩ := body_make a b m 0 (by omega) (by omega) (by omega)
  rw [if_pos (by omega), Nat.zero_add] at h2 h3
  have hl : (rets 0 m).length = m := rets_len _ _
  have e : layF (szHead c) ⟨rets 0 m, bh⟩ = (0, ⟨cmpF (rets 0 m) ⟨c, 0, 0, 5⟩ (m - a) (m - b), bh⟩) := by
    unfold layF
    rw [if_neg (by show ¬ 3 = 1; decide), if_neg (by show ¬ 3 = 2; decide), if_pos (show (szHead c).kd = 3 from rfl), if_neg (by show ¬ (c % 8 ≠ 5 ∨ c = 5); omega)]
    show (match lk 1 bh, lk 2 bh with | some bt, some bf => _ | _, _ => _) = _
    rw [h2, h3]
    rfl
  have hlay := lay_len (szHead c) ⟨rets 0 m, bh⟩
  rw [makeF_cons, h1, step_eq (by simp only [hl] at hlay; omega), e]
  refine ⟨rfl, ?_⟩
  show cmpF (rets 0 m) ⟨c, 0, 0, 5⟩ (m - a) (m - b) = _
  have r1 : reachF (rets 0 m) (m - b) = if b ≤ 253 then (b, rets 0 m) else (0, skipI b :: rets 0 m) := by
    unfold reachF; rw [hl, show m - (m - b) = b from by omega]
  unfold cmpF szCode
  rw [r1]
  by_cases hb2 : b ≤ 253
  · rw [if_pos hb2, if_pos hb2]
    simp only
    have r2 : reachF (rets 0 m) (m - a) = if a ≤ 253 then (a, rets 0 m) else (0, skipI a :: rets 0 m) := by
      unfold reachF; rw [hl, show m - (m - a) = a from by omega]
    rw [r2]
    by_cases ha2 : a ≤ 253
    · rw [if_pos ha2, if_pos ha2]; simp
    · rw [if_neg ha2, if_neg ha2]; simp
  · rw [if_neg hb2, if_neg hb2]
    simp only
    have r2 : reachF (skipI b :: rets 0 m) (m - a) = if a + 1 ≤ 253 then (a + 1, skipI b :: rets 0 m) else (0, skipI (a + 1) :: skipI b :: rets 0 m) := by
      unfold reachF; rw [List.length_cons, hl, show m + 1 - (m - a) = a + 1 from by omega]
    rw [r2]
    by_cases ha2 : a + 1 ≤ 253
    · rw [if_pos ha2, if_pos ha2]; simp
    · rw [if_neg ha2, if_neg ha2]; simp
theorem sz_len (c a b m : Nat) : (szCode c a b m).length = m + 1 + (if 253 < b then 1 else 0) + (if 253 < a + (if 253 < b then 1 else 0) then 1 else 0) := by
  unfold szCode
  by_cases hb : b ≤ 253
  · rw [if_pos hb, if_neg (show ¬ 253 < b by omega)]
    by_cases ha : a ≤ 253
    · rw [if_pos ha, if_neg (by omega), List.length_cons, rets_len]
    · rw [if_neg ha, if_pos (by omega), List.length_cons, List.length_cons, rets_len]
  · rw [if_neg hb, if_pos (show 253 < b by omega)]
    by_cases ha : a + 1 ≤ 253
    · rw [if_pos ha, if_neg (by omega), List.length_cons, List.length_cons, rets_len]
    · rw [if_neg ha, if_pos (by omega), List.length_cons, List.length_cons, List.length_cons, rets_len]
/-! It may be loaded. -/
def AllA : List Ins → Prop
  | [] => True
  | i :: l => alone i l.length = 0 ∧ AllA l
theorem all_at : ∀ {l : List Ins}, AllA l → ∀ (a : Nat) (i : Ins), l[a]? = some i → alone i (l.length - a - 1) = 0
  | j :: l, h, 0, i, hi => by
    simp only [List.getElem?_cons_zero, Option.some.injEq] at hi
    subst hi
    rw [List.length_cons, show l.length + 1 - 0 - 1 = l.length from by omega]
    exact h.1
  | j :: l, h, a + 1, i, hi => by
    rw [List.getElem?_cons_succ] at hi
    rw [List.length_cons, show l.length + 1 - (a + 1) - 1 = l.length - a - 1 from by omega]
    exact all_at h.2 a i hi
theorem alone_ret (k n : Nat) : alone (retI k) n = 0 := rfl
theorem alone_skip {k n : Nat} (h : k < n) : alone (skipI k) n = 0 := by
  have e : jumpB (skipI k) n = true := by
    show (false || ([k].all fun d => decide (d < n))) = true
    simp [h]
  unfold alone
  rw [e]; rfl
theorem alone_if {c t f n : Nat} (hc : c = 21 ∨ c = 69) (ht : t < n) (hf : f < n) : alone ⟨c, t, f, 5⟩ n = 0 := by
  have e : jumpB ⟨c, t, f, 5⟩ n = true := by
    rcases hc with rfl | rfl
    · simp [jumpB, rel, ht, hf]
    · simp [jumpB, rel, ht, hf]
  unfold alone
  rw [e]
  rcases hc with rfl | rfl <;> rfl
theorem all_rets : ∀ d i : Nat, AllA (rets i d)
  | 0, _ => trivial
  | d + 1, i => ⟨alone_ret i _, all_rets d (i + 1)⟩
theorem all_sz {c a b m : Nat} (hc : c = 21 ∨ c = 69) (ha : a < m) (hb : b < m) : AllA (⟨32, 0, 0, 0⟩ :: szCode c a b m) := by
  refine ⟨rfl, ?_⟩
  have hr := all_rets m 0
  have hl : (rets 0 m).length = m := rets_len _ _
  unfold szCode
  by_cases hb2 : b ≤ 253
  · rw [if_pos hb2]
    by_cases ha2 : a ≤ 253
    · rw [if_pos ha2]; exact ⟨alone_if hc (by omega) (by omega), hr⟩
    · rw [if_neg ha2]; exact ⟨alone_if hc (by rw [List.length_cons]; omega) (by rw [List.length_cons]; omega), alone_skip (by omega), hr⟩
  · rw [if_neg hb2]
    by_cases ha2 : a + 1 ≤ 253
    · rw [if_pos ha2]; exact ⟨alone_if hc (by rw [List.length_cons]; omega) (by rw [List.length_cons]; omega), alone_skip (by omega), hr⟩
    · rw [if_neg ha2]; exact ⟨alone_if hc (by rw [List.length_cons, List.length_cons]; omega) (by rw [List.length_cons, List.length_cons]; omega), alone_skip (by rw [List.length_cons]; omega), alone_skip (by omega), hr⟩
end Go.Proofs.Ytcageojoafkojaa.Ju

