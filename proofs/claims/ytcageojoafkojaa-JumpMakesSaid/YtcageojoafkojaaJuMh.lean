/- The law's parts and the tidied ones: made, loaded, run; both say the same. Lists alone. -/
import Derived.Test.YtcageojoafkojaaJuMg
namespace Go.Proofs.Ytcageojoafkojaa.Ju
def SmpI (i : Ins) : Prop := i.c = 32 ∨ i.c = 84 ∨ i.c = 6 ∨ i.c = 5 ∨ i.c = 21 ∨ i.c = 37 ∨ i.c = 53 ∨ i.c = 69
theorem step_far (W : Nat → Nat) (i : Ins) (s : Mc) (h : i.c = 5 ∨ i.c = 21 ∨ i.c = 37 ∨ i.c = 53 ∨ i.c = 69) : stepN W i s = ({ s with nx := s.nx + 1 + farS i s.a }, none) := by
  have ho : opd i s = i.k := by unfold opd; rw [if_neg (by omega)]
  have hf : farN i s = farS i s.a := by unfold farN farS; rw [ho]
  unfold stepN
  rw [if_neg (by omega), if_neg (by omega), if_neg (by omega), if_neg (by omega), if_neg (by omega), if_pos (by omega), hf]
theorem exec_runL (W : Nat → Nat) (l : List Ins) (hs : ∀ i ∈ l, SmpI i) : ∀ (n : Nat) (s : Mc), l.length - s.nx ≤ n → (exec W l n s).2 = runL W (l.drop s.nx) s.a
  | 0, s, h => by
    rw [List.drop_of_length_le (by omega)]; rfl
  | n + 1, s, h => by
    cases hi : l[s.nx]? with
    | none =>
      unfold exec
      rw [hi, List.drop_of_length_le (List.getElem?_eq_none_iff.1 hi)]; rfl
    | some i =>
      obtain ⟨h1, h2⟩ := List.getElem?_eq_some_iff.1 hi
      have hd : l.drop s.nx = i :: l.drop (s.nx + 1) := by rw [List.drop_eq_getElem_cons h1, h2]
      have hsm := hs i (List.mem_of_getElem? hi)
      have go : ∀ s', stepN W i s = (s', none) → s.nx < s'.nx → (exec W l (n + 1) s).2 = runL W (l.drop s'.nx) s'.a := fun s' e hlt => by
        have ih := exec_runL W l hs n s' (by omega)
        conv => lhs; unfold exec
        rw [hi]
        simp only [e]
        exact ih
      rw [hd, runL_cons]
      have hx : ∀ k, l.drop (s.nx + 1 + k) = (l.drop (s.nx + 1)).drop k := fun k => by rw [List.drop_drop]
      obtain ⟨c, t, f, k⟩ := i
      rcases hsm with h | h | h | h | h | h | h | h <;> simp only at h <;> subst h
      · rw [go { s with a := W k, nx := s.nx + 1 } (by simp [stepN, ldN]) (by simp only; omega)]; simp
      · rw [go { s with a := s.a &&& k, nx := s.nx + 1 } (by simp [stepN, reckN, opd]) (by simp only; omega)]; simp
      · conv => lhs; unfold exec
        rw [hi]
        simp [stepN]
      all_goals
        rw [go _ (step_far W _ s (by simp)) (by simp only; omega)]
        simp only [hx]
        rfl
theorem run_code (W : Nat → Nat) {l : List Ins} (hs : ∀ i ∈ l, SmpI i) : (runN W l).2 = runL W l 0 := by
  unfold runN
  rw [exec_runL W l hs _ _ (Nat.sub_le _ _)]; rfl
theorem cod_good {l : List PtM} {r : Nat × CdM} (h : Cod l r) (hw : wtL l ≤ 4096) : Good r.2.ins := by
  have := h.len
  refine ⟨h.pos, by omega, all_at h.all, h.ends, fun a i hi ht => ?_⟩
  have hs := h.smp i (List.mem_of_getElem? hi)
  unfold takes at ht
  simp only [Bool.or_eq_true, beq_iff_eq] at ht
  omega
/-! What tidying keeps. -/
theorem wt_led (o : List (Int × Int)) (p : PtM) : wtP (ledP o p) = wtP p := by unfold wtP; rw [led_kd]
theorem fin_led {o : List (Int × Int)} {p : PtM} (h : Fin1 p) : Fin1 (ledP o p) := by
  have hi : (ledP o p).i = p.i := by
    unfold ledP
    split
    · rfl
    · split <;> rfl
  obtain ⟨h1, h2, h3⟩ := h
  refine ⟨?_, by rw [led_kd]; exact h2, by rw [led_kd, hi]; exact h3⟩
  unfold Smp at h1 ⊢
  rw [led_kd, hi]; exact h1
theorem leadR_cons (p : PtM) (t : List PtM) : leadR (p :: t) = if p.kd = 1 then (if (leadR t).nx.kd = 4 then ⟨p :: (leadR t).l, (p.to, (leadR t).nx.to) :: (leadR t).o, (leadR t).nx⟩ else ⟨p :: (leadR t).l, (leadR t).o, (leadR t).nx⟩)
    else ⟨ledP (leadR t).o p :: (leadR t).l, (leadR t).o, ledP (leadR t).o p⟩ := rfl
theorem leadR_keep : ∀ z : List PtM, wtL (leadR z).l = wtL z ∧ ((∀ p ∈ z, Fin1 p) → ∀ p ∈ (leadR z).l, Fin1 p) ∧ (LastR z → LastR (leadR z).l)
  | [] => ⟨rfl, fun _ p h => (by simp [leadR] at h), fun h => h⟩
  | p :: t => by
    obtain ⟨h1, h2, h3⟩ := leadR_keep t
    have e : ∃ q, (leadR (p :: t)).l = q :: (leadR t).l ∧ wtP q = wtP p ∧ (Fin1 p → Fin1 q) ∧ q.kd = p.kd ∧ q.i = p.i := by
      rw [leadR_cons]
      by_cases k1 : p.kd = 1
      · rw [if_pos k1]
        split
        · exact ⟨p, rfl, rfl, id, rfl, rfl⟩
        · exact ⟨p, rfl, rfl, id, rfl, rfl⟩
      · rw [if_neg k1]
        refine ⟨_, rfl, wt_led _ _, fin_led, led_kd _ _, ?_⟩
        unfold ledP
        split
        · rfl
        · split <;> rfl
    obtain ⟨q, e1, e2, e3, e4, e5⟩ := e
    rw [e1]
    refine ⟨by show wtP q + wtL (leadR t).l = wtP p + wtL t; rw [e2, h1], fun a r hr => ?_, fun a => ?_⟩
    · rcases List.mem_cons.1 hr with rfl | hr
      · exact e3 (a p List.mem_cons_self)
      · exact h2 (fun x hx => a x (List.mem_cons_of_mem _ hx)) r hr
    · rcases a with ⟨rfl, a, b⟩ | a
      · exact Or.inl ⟨rfl, by rw [e4]; exact a, by rw [e5]; exact b⟩
      · exact Or.inr (h3 a)
theorem leav_wt : ∀ l : List PtM, wtL (leavF l) ≤ wtL l ∧ (LastR l → LastR (leavF l))
  | [] => ⟨Nat.le_refl _, fun h => h⟩
  | p :: t => by
    obtain ⟨h1, h2⟩ := leav_wt t
    unfold leavF
    by_cases h : p.kd = 4 ∧ cnB p.to t = true
    · rw [if_pos h]
      refine ⟨by show _ ≤ wtP p + wtL t; omega, fun a => ?_⟩
      rcases a with ⟨_, a, _⟩ | a
      · omega
      · exact h2 a
    · rw [if_neg h]
      refine ⟨by show wtP p + wtL (leavF t) ≤ wtP p + wtL t; omega, fun a => ?_⟩
      rcases a with ⟨rfl, a⟩ | a
      · exact Or.inl ⟨rfl, a⟩
      · exact Or.inr (h2 a)
theorem alive_wt : ∀ (l : List PtM) (e : Bool) (U : List (Int × Int)), wtL (aliveR e U l) ≤ wtL l
  | [], _, _ => Nat.le_refl _
  | p :: t, e, U => by
    unfold aliveR
    split
    · have := alive_wt t e U; show _ ≤ wtP p + wtL t; omega
    · split
      · have := alive_wt t e (cntW p (-1) U); show _ ≤ wtP p + wtL t; omega
      · have := alive_wt t (endsB p) U; show wtP p + _ ≤ wtP p + wtL t; omega
theorem alive_last : ∀ (l : List PtM) (e : Bool) (U : List (Int × Int)) (c : Int → Int), (∀ n, 0 ≤ c n) → (∀ n, gW n U = c n + useL n l) → Fwd l → LastR l →
    LastR (aliveR e U l) ∨ (aliveR e U l = [] ∧ e = true ∧ ∀ n, HasN n l → c n = 0)
  | [], _, _, _, _, _, _, h => h.elim
  | p :: t, e, U, c, hc, hU, hf, hl => by
    obtain ⟨f1, f2, f3⟩ := hf
    unfold aliveR
    rcases hl with ⟨rfl, k2, k6⟩ | hl
    · rw [if_neg (fun a => by omega)]
      by_cases h2 : e = true ∧ p.kd ≠ 1
      · rw [if_pos h2]
        refine Or.inr ⟨rfl, h2.1, fun n a => ?_⟩
        rcases has_cons.1 a with ⟨a, _⟩ | a
        · omega
        · exact absurd a (has_nil n)
      · rw [if_neg h2]; exact Or.inl (Or.inl ⟨rfl, k2, k6⟩)
    by_cases h1 : p.kd = 1 ∧ gW p.to U = 0
    · rw [if_pos h1]
      have hz := hU p.to
      have h0 := hc p.to
      have hu := useL_nn p.to (p :: t)
      have hnw : ∀ n, ¬ WayTo p n := fun n a => by rcases a with ⟨a, _⟩ | ⟨a, _⟩ <;> omega
      rcases alive_last t e U c hc (fun n => by rw [hU n, useL_cons, useN_no (hnw n)]; omega) f1 hl with a | ⟨a, b, d⟩
      · exact Or.inl a
      · refine Or.inr ⟨a, b, fun n x => ?_⟩
        rcases has_cons.1 x with ⟨_, x⟩ | x
        · rw [← x]; omega
        · exact d n x
    · rw [if_neg h1]
      by_cases h2 : e = true ∧ p.kd ≠ 1
      · rw [if_pos h2]
        rcases alive_last t e (cntW p (-1) U) c hc (fun n => by rw [gW_cnt, hU n, useL_cons]; omega) f1 hl with a | ⟨a, b, d⟩
        · exact Or.inl a
        · refine Or.inr ⟨a, b, fun n x => ?_⟩
          rcases has_cons.1 x with ⟨x, _⟩ | x
          · exact absurd x h2.2
          · exact d n x
      · rw [if_neg h2]
        refine Or.inl ?_
        rcases alive_last t (endsB p) U (fun n => c n + useN n p) (fun n => by have := hc n; have := useN_nn n p; show 0 ≤ c n + useN n p; omega) (fun n => by rw [hU n, useL_cons]; show _ = c n + useN n p + useL n t; omega) f1 hl with a | ⟨a, b, d⟩
        · exact Or.inr a
        · rw [a]
          refine Or.inl ⟨rfl, ?_⟩
          have hb := of_decide_eq_true b
          rcases hb with hb | hb
          · have hw : WayTo p p.to := Or.inr ⟨hb, rfl⟩
            have h3 : c p.to + useN p.to p = 0 := d p.to (f3 _ hw)
            have h4 := useN_way hw
            have h5 := hc p.to
            omega
          · exact hb
theorem round_keep {l : List PtM} (hf : Fwd l) (hs : ∀ p ∈ l, Fin1 p) (hl : LastR l) : wtL (roundF l) ≤ wtL l ∧ (∀ p ∈ roundF l, Fin1 p) ∧ LastR (roundF l) := by
  obtain ⟨h1, h2, h3⟩ := leadR_keep l
  have hI := lead_inv hf
  have ha : LastR (aliveF (leadF l)) := by
    rw [aliveF_rec, leadF_rec]
    rcases alive_last (leadR l).l false (usesW (leadR l).l) (fun _ => 0) (fun _ => Int.le_refl _) (fun n => by rw [gW_uses]; show _ = (0 : Int) + _; omega) hI.fwd (h3 hl) with a | ⟨_, a, _⟩
    · exact a
    · cases a
  unfold roundF
  refine ⟨?_, fun p hp => ?_, (leav_wt _).2 ha⟩
  · have := (leav_wt (aliveF (leadF l))).1
    have h5 := alive_wt (leadR l).l false (usesW (leadR l).l)
    rw [aliveF_rec, leadF_rec] at this ⊢
    omega
  · have := aliveF_sub (leavF_sub hp)
    rw [leadF_rec] at this
    exact h2 hs p this
theorem tidy_keep : ∀ (k : Nat) (x : List PtM), x.length < k → Fwd x → (∀ p ∈ x, Fin1 p) → LastR x → wtL (tidyF x) ≤ wtL x ∧ (∀ p ∈ tidyF x, Fin1 p) ∧ LastR (tidyF x)
  | 0, _, h, _, _, _ => by omega
  | k + 1, x, h, hf, hs, hl => by
    obtain ⟨r1, r2, r3⟩ := round_keep hf hs hl
    by_cases e : (roundF x).length = x.length
    · rw [tidyF_end e]; exact ⟨r1, r2, r3⟩
    · rw [tidyF_on e]
      obtain ⟨t1, t2, t3⟩ := tidy_keep k (roundF x) (by have := roundF_len x; omega) (round_fwd hf) r2 r3
      exact ⟨by omega, t2, t3⟩
end Go.Proofs.Ytcageojoafkojaa.Ju

