/- What Tidy leaves, further: uses, what is left out; a fixed point. Lists alone. -/
import Derived.Test.YtcageojoafkojaaJuTi
namespace Go.Proofs.Ytcageojoafkojaa.Ju
def useN (n : Int) (p : PtM) : Int :=
  if p.kd = 3 then (if p.to = n then 1 else 0) + (if p.el = n then 1 else 0) else if p.kd = 4 then (if p.to = n then 1 else 0) else 0
def useL (n : Int) : List PtM → Int
  | [] => 0
  | p :: t => useN n p + useL n t
theorem useL_cons (n : Int) (p : PtM) (t : List PtM) : useL n (p :: t) = useN n p + useL n t := rfl
theorem useN_nn (n : Int) (p : PtM) : 0 ≤ useN n p := by unfold useN; repeat' split <;> omega
theorem useL_nn (n : Int) : ∀ l : List PtM, 0 ≤ useL n l
  | [] => Int.le_refl _
  | p :: t => by rw [useL_cons]; have h1 := useN_nn n p; have h2 := useL_nn n t; omega
theorem useN_way {n : Int} {p : PtM} (h : WayTo p n) : 1 ≤ useN n p := by
  unfold useN
  rcases h with ⟨h, h2 | h2⟩ | ⟨h, h2⟩
  · rw [if_pos h, if_pos h2]; split <;> omega
  · rw [if_pos h, if_pos h2]; split <;> omega
  · rw [if_neg (by omega), if_pos h, if_pos h2]; omega
theorem useN_no {n : Int} {p : PtM} (h : ¬ WayTo p n) : useN n p = 0 := by
  unfold useN
  by_cases h3 : p.kd = 3
  · rw [if_pos h3, if_neg (fun e => h (Or.inl ⟨h3, Or.inl e⟩)), if_neg (fun e => h (Or.inl ⟨h3, Or.inr e⟩))]; rfl
  · rw [if_neg h3]
    by_cases h4 : p.kd = 4
    · rw [if_pos h4, if_neg (fun e => h (Or.inr ⟨h4, e⟩))]
    · rw [if_neg h4]
theorem useL_no {n : Int} : ∀ {l : List PtM}, (∀ p ∈ l, ¬ WayTo p n) → useL n l = 0
  | [], _ => rfl
  | p :: t, h => by rw [useL_cons, useN_no (h p List.mem_cons_self), useL_no (fun q hq => h q (List.mem_cons_of_mem _ hq))]; rfl
theorem useL_way {n : Int} : ∀ {l : List PtM}, useL n l ≠ 0 → ∃ p ∈ l, WayTo p n
  | [], h => absurd rfl h
  | p :: t, h => by
    by_cases hw : WayTo p n
    · exact ⟨p, List.mem_cons_self, hw⟩
    · rw [useL_cons, useN_no hw] at h
      obtain ⟨q, hq, h2⟩ := useL_way (n := n) (l := t) (by omega)
      exact ⟨q, List.mem_cons_of_mem _ hq, h2⟩
theorem gW_cons (n m v : Int) (W : List (Int × Int)) : gW n ((m, v) :: W) = if m = n then v else gW n W := by
  unfold gW
  rw [lk_cons]
  split <;> rfl
theorem gW_cnt (n : Int) (p : PtM) (k : Int) (W : List (Int × Int)) : gW n (cntW p k W) = gW n W + k * useN n p := by
  unfold cntW useN
  by_cases h3 : p.kd = 3
  · rw [if_pos h3, if_pos h3, gW_cons, gW_cons, gW_cons]
    by_cases a : p.to = n <;> by_cases b : p.el = n
    · subst a; rw [if_pos b, if_pos rfl, if_pos b, if_pos b.symm]; omega
    · rw [if_neg b, if_pos a, if_pos a, if_neg b, a]; omega
    · rw [if_pos b, if_neg a, if_pos b, if_neg (fun e => a (e.trans b)), b]; omega
    · rw [if_neg b, if_neg a, if_neg a, if_neg b]; omega
  · rw [if_neg h3, if_neg h3]
    by_cases h4 : p.kd = 4
    · rw [if_pos h4, if_pos h4, gW_cons]
      by_cases a : p.to = n
      · rw [if_pos a, if_pos a, a]; omega
      · rw [if_neg a, if_neg a]; omega
    · rw [if_neg h4, if_neg h4]; omega
theorem gW_fold (n : Int) : ∀ (l : List PtM) (W : List (Int × Int)), gW n (l.foldl (fun W p => cntW p 1 W) W) = gW n W + useL n l
  | [], W => by simp [useL]
  | p :: t, W => by rw [List.foldl_cons, gW_fold n t, gW_cnt, useL_cons]; omega
theorem gW_uses (n : Int) (l : List PtM) : gW n (usesW l) = useL n l := by
  unfold usesW
  rw [gW_fold]
  show (0 : Int) + _ = _
  omega
/-! What is left out. -/
def aliveR : Bool → List (Int × Int) → List PtM → List PtM
  | _, _, [] => []
  | e, W, p :: t => if p.kd = 1 ∧ gW p.to W = 0 then aliveR e W t else if e = true ∧ p.kd ≠ 1 then aliveR e (cntW p (-1) W) t else p :: aliveR (endsB p) W t
theorem alive_rec : ∀ (l : List PtM) (s : AlM), (l.foldl aliveS s).left = s.left ++ aliveR s.ended s.W l
  | [], s => by simp [aliveR]
  | p :: t, s => by
    rw [List.foldl_cons, alive_rec t]
    unfold aliveS
    conv => rhs; unfold aliveR
    by_cases h1 : p.kd = 1 ∧ gW p.to s.W = 0
    · rw [if_pos h1, if_pos h1]
    · rw [if_neg h1, if_neg h1]
      by_cases h2 : s.ended = true ∧ p.kd ≠ 1
      · rw [if_pos h2, if_pos h2]
      · rw [if_neg h2, if_neg h2, List.append_assoc]; rfl
theorem aliveF_rec (l : List PtM) : aliveF l = aliveR false (usesW l) l := by unfold aliveF; rw [alive_rec]; rfl
theorem aliveR_len : ∀ (l : List PtM) (e : Bool) (W : List (Int × Int)), (aliveR e W l).length ≤ l.length
  | [], _, _ => Nat.le_refl _
  | p :: t, e, W => by
    unfold aliveR
    split
    · have := aliveR_len t e W; simp; omega
    · split
      · have := aliveR_len t e (cntW p (-1) W); simp; omega
      · have := aliveR_len t (endsB p) W; simp; omega
/-- Nothing is left out. -/
def Kept : Bool → List (Int × Int) → List PtM → Prop
  | _, _, [] => True
  | e, W, p :: t => ¬ (p.kd = 1 ∧ gW p.to W = 0) ∧ ¬ (e = true ∧ p.kd ≠ 1) ∧ Kept (endsB p) W t
theorem kept_of : ∀ (l : List PtM) (e : Bool) (W : List (Int × Int)), (aliveR e W l).length = l.length → Kept e W l
  | [], _, _, _ => trivial
  | p :: t, e, W, h => by
    unfold aliveR at h
    by_cases h1 : p.kd = 1 ∧ gW p.to W = 0
    · rw [if_pos h1] at h; have := aliveR_len t e W; simp at h; omega
    · rw [if_neg h1] at h
      by_cases h2 : e = true ∧ p.kd ≠ 1
      · rw [if_pos h2] at h; have := aliveR_len t e (cntW p (-1) W); simp at h; omega
      · rw [if_neg h2] at h
        exact ⟨h1, h2, kept_of t (endsB p) W (by simpa using h)⟩
theorem kept_same : ∀ (l : List PtM) (e : Bool) (W : List (Int × Int)), Kept e W l → aliveR e W l = l
  | [], _, _, _ => rfl
  | p :: t, e, W, h => by
    obtain ⟨h1, h2, h3⟩ := h
    unfold aliveR
    rw [if_neg h1, if_neg h2, kept_same t _ W h3]
theorem aliveR_fwd : ∀ (l : List PtM) (e : Bool) (W : List (Int × Int)) (c : Int → Int), (∀ n, 0 ≤ c n) → (∀ n, gW n W = c n + useL n l) → Fwd l →
    Fwd (aliveR e W l) ∧ (∀ n, HasN n l → 0 < c n → HasN n (aliveR e W l)) ∧ (∀ n, HasN n (aliveR e W l) → HasN n l)
  | [], _, _, _, _, _, _ => ⟨trivial, fun n h => absurd h (has_nil n), fun n h => absurd h (has_nil n)⟩
  | p :: t, e, W, c, hc, hW, h => by
    obtain ⟨f1, f2, f3⟩ := h
    unfold aliveR
    by_cases h1 : p.kd = 1 ∧ gW p.to W = 0
    · rw [if_pos h1]
      have hz := hW p.to
      have h0 := hc p.to
      have hu := useL_nn p.to (p :: t)
      have hnw : ∀ n, ¬ WayTo p n := fun n a => by rcases a with ⟨a, _⟩ | ⟨a, _⟩ <;> omega
      have ih := aliveR_fwd t e W c hc (fun n => by rw [hW n, useL_cons, useN_no (hnw n)]; omega) f1
      refine ⟨ih.1, fun n a b => ?_, fun n a => has_cons.2 (Or.inr (ih.2.2 n a))⟩
      rcases has_cons.1 a with ⟨_, a⟩ | a
      · subst a; omega
      · exact ih.2.1 n a b
    · rw [if_neg h1]
      by_cases h2 : e = true ∧ p.kd ≠ 1
      · rw [if_pos h2]
        have ih := aliveR_fwd t e (cntW p (-1) W) c hc (fun n => by rw [gW_cnt, hW n, useL_cons]; omega) f1
        refine ⟨ih.1, fun n a b => ?_, fun n a => has_cons.2 (Or.inr (ih.2.2 n a))⟩
        rcases has_cons.1 a with ⟨a, _⟩ | a
        · exact absurd a h2.2
        · exact ih.2.1 n a b
      · rw [if_neg h2]
        have ih := aliveR_fwd t (endsB p) W (fun n => c n + useN n p) (fun n => by have := hc n; have := useN_nn n p; show 0 ≤ c n + useN n p; omega) (fun n => by rw [hW n, useL_cons]; show _ = c n + useN n p + useL n t; omega) f1
        refine ⟨⟨ih.1, fun a b => f2 a (ih.2.2 _ b), fun n a => ih.2.1 n (f3 n a) (by have := useN_way a; have := hc n; show 0 < c n + useN n p; omega)⟩, fun n a b => ?_, fun n a => ?_⟩
        · rcases has_cons.1 a with a | a
          · exact has_cons.2 (Or.inl a)
          · exact has_cons.2 (Or.inr (ih.2.1 n a (by have := useN_nn n p; show 0 < c n + useN n p; omega)))
        · rcases has_cons.1 a with a | a
          · exact has_cons.2 (Or.inl a)
          · exact has_cons.2 (Or.inr (ih.2.2 n a))
theorem aliveF_fwd {l : List PtM} (h : Fwd l) : Fwd (aliveF l) := by
  rw [aliveF_rec]
  exact (aliveR_fwd l false (usesW l) (fun _ => 0) (fun _ => Int.le_refl _) (fun n => by rw [gW_uses]; show _ = (0 : Int) + _; omega) h).1
theorem leav_has (n : Int) : ∀ l : List PtM, HasN n (leavF l) ↔ HasN n l
  | [] => Iff.rfl
  | p :: t => by
    unfold leavF
    by_cases h : p.kd = 4 ∧ cnB p.to t = true
    · rw [if_pos h, has_cons, leav_has n t]
      exact ⟨Or.inr, fun a => by rcases a with ⟨a, _⟩ | a; omega; exact a⟩
    · rw [if_neg h, has_cons, has_cons, leav_has n t]
theorem leav_fwd : ∀ {l : List PtM}, Fwd l → Fwd (leavF l)
  | [], _ => trivial
  | p :: t, h => by
    obtain ⟨f1, f2, f3⟩ := h
    unfold leavF
    split
    · exact leav_fwd f1
    · exact ⟨leav_fwd f1, fun a b => f2 a ((leav_has _ t).1 b), fun n a => (leav_has n t).2 (f3 n a)⟩
theorem round_fwd {l : List PtM} (h : Fwd l) : Fwd (roundF l) := by
  unfold roundF
  rw [leadF_rec]
  exact leav_fwd (aliveF_fwd (lead_inv h).fwd)
/-- No Goto goes to what comes next. -/
def Left : List PtM → Prop
  | [] => True
  | p :: t => ¬ (p.kd = 4 ∧ cnB p.to t = true) ∧ Left t
theorem left_of : ∀ (l : List PtM), (leavF l).length = l.length → Left l
  | [], _ => trivial
  | p :: t, h => by
    unfold leavF at h
    by_cases h1 : p.kd = 4 ∧ cnB p.to t = true
    · rw [if_pos h1] at h; have := leavF_len t; simp at h; omega
    · rw [if_neg h1] at h
      exact ⟨h1, left_of t (by simpa using h)⟩
theorem left_same : ∀ (l : List PtM), Left l → leavF l = l
  | [], _ => rfl
  | p :: t, h => by unfold leavF; rw [if_neg h.1, left_same t h.2]
/-- Parts with nothing to tidy. -/
structure Tidied (y : List PtM) : Prop where
  kept : Kept false (usesW y) y
  left : Left y
  bad : ∀ n, ¬ BadH n y
  fwd : Fwd y
theorem bad_kept {n : Int} {W : List (Int × Int)} : ∀ {l : List PtM} {e : Bool}, BadH n l → Kept e W l → gW n W ≠ 0
  | p :: t, e, h, hk => by
    rcases h with ⟨h1, h2, _⟩ | h
    · intro h0; exact hk.1 ⟨h1, by rw [h2]; exact h0⟩
    · exact bad_kept h hk.2.2
theorem round_same {z : List PtM} (hz : Fwd z) (h : (roundF z).length = z.length) : Tidied (roundF z) := by
  have hI := lead_inv hz
  have h1 := leavF_len (aliveF (leadF z))
  have h2 := aliveF_len (leadF z)
  have h3 := leadF_len z
  have e1 : (aliveF (leadF z)).length = (leadF z).length := by unfold roundF at h; omega
  have hk : Kept false (usesW (leadF z)) (leadF z) := kept_of _ _ _ (by rw [← aliveF_rec]; exact e1)
  have e2 : aliveF (leadF z) = leadF z := by rw [aliveF_rec]; exact kept_same _ _ _ hk
  have hl : Left (leadF z) := left_of _ (by unfold roundF at h; rw [e2] at h; omega)
  have e3 : roundF z = leadF z := by unfold roundF; rw [e2, left_same _ hl]
  rw [e3]
  refine ⟨hk, hl, fun n hb => ?_, by rw [leadF_rec]; exact hI.fwd⟩
  have hg := bad_kept hb hk
  rw [gW_uses] at hg
  obtain ⟨p, hp, hw⟩ := useL_way hg
  rw [leadF_rec] at hb hp
  exact lead_bad z n hb (hI.ways p hp n hw)
theorem tidy_tidied : ∀ (k : Nat) (x : List PtM), x.length < k → Fwd x → Tidied (tidyF x)
  | 0, _, h, _ => by omega
  | k + 1, x, h, hf => by
    by_cases e : (roundF x).length = x.length
    · rw [tidyF_end e]; exact round_same hf e
    · rw [tidyF_on e]
      have := roundF_len x
      exact tidy_tidied k (roundF x) (by omega) (round_fwd hf)
/-- With no name before a Goto leading turns nothing. -/
theorem lead_calm : ∀ (y : List PtM), (∀ n, ¬ BadH n y) → (leadR y).l = y ∧ (leadR y).o = [] ∧ ((leadR y).nx.kd = 4 → ∃ q, nextP y = some q ∧ q.kd = 4)
  | [], _ => ⟨rfl, rfl, fun h => by simp [leadR, zPt] at h⟩
  | p :: t, h => by
    obtain ⟨h1, h2, h3⟩ := lead_calm t (fun n a => h n (Or.inr a))
    by_cases k1 : p.kd = 1
    · have k4 : ¬ (leadR t).nx.kd = 4 := fun a => h p.to (Or.inl ⟨k1, rfl, h3 a⟩)
      have e : leadR (p :: t) = ⟨p :: (leadR t).l, (leadR t).o, (leadR t).nx⟩ := by conv => lhs; unfold leadR; rw [if_pos k1, if_neg k4]
      rw [e]
      exact ⟨by simp only; rw [h1], h2, fun a => absurd a k4⟩
    · have e : leadR (p :: t) = ⟨ledP (leadR t).o p :: (leadR t).l, (leadR t).o, ledP (leadR t).o p⟩ := by conv => lhs; unfold leadR; rw [if_neg k1]
      have e2 : ledP [] p = p := by
        unfold ledP
        split
        · rfl
        · split <;> rfl
      rw [e, h2, e2, h1]
      refine ⟨rfl, rfl, fun a => ⟨p, ?_, a⟩⟩
      unfold nextP
      rw [if_neg k1]
theorem tidied_fix {y : List PtM} (h : Tidied y) : tidyF y = y := by
  have e1 : leadF y = y := by rw [leadF_rec]; exact (lead_calm y h.bad).1
  have e2 : aliveF y = y := by rw [aliveF_rec]; exact kept_same _ _ _ h.kept
  have e : roundF y = y := by unfold roundF; rw [e1, e2, left_same _ h.left]
  rw [tidyF_end (by rw [e]), e]
end Go.Proofs.Ytcageojoafkojaa.Ju

