/- Tidied parts mean the same: lists alone. -/
import Derived.Test.YtcageojoafkojaaJuMn
import Derived.Test.YtcageojoafkojaaJuTk
namespace Go.Proofs.Ytcageojoafkojaa.Ju
theorem val_here {W : Nat → Nat} {p : PtM} {t : List PtM} (h : p.kd = 1) (A : Nat) : valL W (p :: t) A = valL W t A := by rw [valL_cons, if_neg (by omega), if_neg (by omega), if_neg (by omega)]
theorem aft_here {p : PtM} {t : List PtM} {n : Int} (h : p.kd = 1) (e : p.to = n) : aft n (p :: t) = p :: t := by conv => lhs; unfold aft; rw [if_pos ⟨h, e⟩]
theorem aft_no {p : PtM} {t : List PtM} {n : Int} (h : p.kd ≠ 1) : aft n (p :: t) = aft n t := aft_other (fun a => h a.1)
theorem aft_ne {p : PtM} {t : List PtM} {n : Int} (h : p.to ≠ n) : aft n (p :: t) = aft n t := aft_other (fun a => h a.2)
/-- They mean the same, from the start and from each name. -/
structure Same (W : Nat → Nat) (x y : List PtM) : Prop where
  all : ∀ A, valL W x A = valL W y A
  at_ : ∀ n A, valL W (aft n x) A = valL W (aft n y) A
theorem Same.cons {W : Nat → Nat} {x y : List PtM} (h : Same W x y) (p : PtM) : Same W (p :: x) (p :: y) := by
  have ha : ∀ A, valL W (p :: x) A = valL W (p :: y) A := fun A => by
    rw [valL_cons, valL_cons, h.at_ p.to A, h.at_ _ A, h.all, h.all, h.all]
  refine ⟨ha, fun n A => ?_⟩
  by_cases e : p.kd = 1 ∧ p.to = n
  · rw [aft_here e.1 e.2, aft_here e.1 e.2]; exact ha A
  · rw [aft_other e, aft_other e]; exact h.at_ n A
theorem cn_val {W : Nat → Nat} {n : Int} : ∀ {t : List PtM}, cnB n t = true → ∀ A, valL W (aft n t) A = valL W t A
  | [], h, _ => by cases h
  | q :: t, h, A => by
    unfold cnB at h
    by_cases k1 : q.kd ≠ 1
    · rw [if_pos k1] at h; cases h
    · rw [if_neg k1] at h
      by_cases e : q.to = n
      · rw [aft_here (by omega) e]
      · rw [if_neg e] at h
        rw [aft_ne e, val_here (by omega)]
        exact cn_val h A
theorem leav_same (W : Nat → Nat) : ∀ l : List PtM, Same W (leavF l) l
  | [] => ⟨fun _ => rfl, fun _ _ => rfl⟩
  | p :: t => by
    have ih := leav_same W t
    unfold leavF
    by_cases h : p.kd = 4 ∧ cnB p.to t = true
    · rw [if_pos h]
      refine ⟨fun A => ?_, fun n A => ?_⟩
      · rw [valL_cons, if_pos h.1, cn_val h.2]; exact ih.all A
      · rw [aft_no (show p.kd ≠ 1 by omega)]; exact ih.at_ n A
    · rw [if_neg h]; exact ih.cons p
/-- What leading leaves of the meaning. -/
structure LdV (W : Nat → Nat) (z : List PtM) (s : LdM) : Prop where
  same : Same W s.l z
  o : ∀ n t, lk n s.o = some t → ∀ A, valL W (aft n z) A = valL W (aft t z) A
  nx : s.nx.kd = 4 → ∀ A, valL W z A = valL W (aft s.nx.to z) A
theorem lead_val (W : Nat → Nat) : ∀ {z : List PtM}, Fwd z → LdV W z (leadR z)
  | [], _ => ⟨⟨fun _ => rfl, fun _ _ => rfl⟩, fun n t h => by simp [leadR, lk] at h, fun h => by simp [leadR, zPt] at h⟩
  | p :: t, h => by
    obtain ⟨h1, h2, h3⟩ := h
    have ih := lead_val W h1
    have hI := lead_inv h1
    obtain ⟨s, hs⟩ : ∃ s, s = leadR t := ⟨_, rfl⟩
    rw [← hs] at ih hI
    by_cases k1 : p.kd = 1
    · have hp := h2 k1
      have ne : ∀ {n : Int}, HasN n t → p.to ≠ n := fun a e => hp (by rw [e]; exact a)
      have ho : ∀ n u, lk n s.o = some u → ∀ A, valL W (aft n (p :: t)) A = valL W (aft u (p :: t)) A := fun n u hu A => by
        rw [aft_ne (ne (hI.keys n u hu).1), aft_ne (ne (hI.keys n u hu).2)]; exact ih.o n u hu A
      have hn : s.nx.kd = 4 → ∀ A, valL W (p :: t) A = valL W (aft s.nx.to (p :: t)) A := fun a A => by
        rw [val_here k1, aft_ne (ne (hI.nx a).1)]; exact ih.nx a A
      by_cases k4 : s.nx.kd = 4
      · rw [show leadR (p :: t) = ⟨p :: s.l, (p.to, s.nx.to) :: s.o, s.nx⟩ by conv => lhs; unfold leadR; rw [if_pos k1, ← hs, if_pos k4]]
        refine ⟨ih.same.cons p, fun n u hu A => ?_, hn⟩
        rw [lk_cons] at hu
        split at hu
        · rename_i e
          cases hu
          rw [aft_here k1 e]; exact hn k4 A
        · exact ho n u hu A
      · rw [show leadR (p :: t) = ⟨p :: s.l, s.o, s.nx⟩ by conv => lhs; unfold leadR; rw [if_pos k1, ← hs, if_neg k4]]
        exact ⟨ih.same.cons p, ho, hn⟩
    · rw [show leadR (p :: t) = ⟨ledP s.o p :: s.l, s.o, ledP s.o p⟩ by conv => lhs; unfold leadR; rw [if_neg k1, ← hs]]
      have he : ∀ n A, valL W (aft (endF s.o n) t) A = valL W (aft n t) A := fun n A => by
        rcases end_one hI.inv n with ⟨_, e⟩ | ⟨u, e1, e2⟩
        · rw [e]
        · rw [e2]; exact (ih.o n u e1 A).symm
      have hk : (ledP s.o p).kd ≠ 1 := by rw [led_kd]; exact k1
      have ha : ∀ A, valL W (ledP s.o p :: s.l) A = valL W (p :: t) A := fun A => by
        rw [← (ih.same.cons p).all A]
        unfold ledP
        by_cases k3 : p.kd = 3
        · rw [if_pos k3, valL_cons, valL_cons, if_neg (show ¬ p.kd = 4 by omega), if_neg (show ¬ p.kd = 4 by omega), if_pos k3, if_pos k3]
          simp only
          split
          · rw [ih.same.at_, ih.same.at_, he]
          · rw [ih.same.at_, ih.same.at_, he]
        · rw [if_neg k3]
          by_cases k4 : p.kd = 4
          · rw [if_pos k4, valL_cons, valL_cons, if_pos k4, if_pos k4]
            simp only
            rw [ih.same.at_, ih.same.at_, he]
          · rw [if_neg k4]
      refine ⟨⟨ha, fun n A => ?_⟩, fun n u hu A => ?_, fun a A => ?_⟩
      · rw [aft_no hk, aft_no k1]; exact ih.same.at_ n A
      · rw [aft_no k1, aft_no k1]; exact ih.o n u hu A
      · simp only at a ⊢
        rw [led_kd] at a
        rw [aft_no k1, valL_cons, if_pos a, show (ledP s.o p).to = endF s.o p.to by unfold ledP; rw [if_neg (by omega), if_pos a], he]
theorem alive_val (W : Nat → Nat) : ∀ (l : List PtM) (e : Bool) (U : List (Int × Int)) (c : Int → Int), (∀ n, 0 ≤ c n) → (∀ n, gW n U = c n + useL n l) → Fwd l →
    (e = false → ∀ A, valL W (aliveR e U l) A = valL W l A) ∧ (∀ n, HasN n l → 0 < c n → ∀ A, valL W (aft n (aliveR e U l)) A = valL W (aft n l) A)
  | [], _, _, _, _, _, _ => ⟨fun _ _ => rfl, fun n h => absurd h (has_nil n)⟩
  | p :: t, e, U, c, hc, hU, h => by
    obtain ⟨f1, f2, f3⟩ := h
    unfold aliveR
    by_cases h1 : p.kd = 1 ∧ gW p.to U = 0
    · rw [if_pos h1]
      have hz := hU p.to
      have h0 := hc p.to
      have hu := useL_nn p.to (p :: t)
      have hnw : ∀ n, ¬ WayTo p n := fun n a => by rcases a with ⟨a, _⟩ | ⟨a, _⟩ <;> omega
      have ih := alive_val W t e U c hc (fun n => by rw [hU n, useL_cons, useN_no (hnw n)]; omega) f1
      refine ⟨fun he A => by rw [val_here h1.1]; exact ih.1 he A, fun n a b A => ?_⟩
      have hne : p.to ≠ n := fun e => by subst e; omega
      rw [aft_ne hne]
      rcases has_cons.1 a with ⟨_, a⟩ | a
      · exact absurd a hne
      · exact ih.2 n a b A
    · rw [if_neg h1]
      by_cases h2 : e = true ∧ p.kd ≠ 1
      · rw [if_pos h2]
        have ih := alive_val W t e (cntW p (-1) U) c hc (fun n => by rw [gW_cnt, hU n, useL_cons]; omega) f1
        refine ⟨fun he => (by rw [h2.1] at he; cases he), fun n a b A => ?_⟩
        rw [aft_no h2.2]
        rcases has_cons.1 a with ⟨a, _⟩ | a
        · exact absurd a h2.2
        · exact ih.2 n a b A
      · rw [if_neg h2]
        have ih := alive_val W t (endsB p) U (fun n => c n + useN n p) (fun n => by have := hc n; have := useN_nn n p; show 0 ≤ c n + useN n p; omega) (fun n => by rw [hU n, useL_cons]; show _ = c n + useN n p + useL n t; omega) f1
        have hway : ∀ n, WayTo p n → ∀ A, valL W (aft n (aliveR (endsB p) U t)) A = valL W (aft n t) A := fun n a A => ih.2 n (f3 n a) (by have := useN_way a; have := hc n; show 0 < c n + useN n p; omega) A
        have ha : ∀ A, valL W (p :: aliveR (endsB p) U t) A = valL W (p :: t) A := fun A => by
          rw [valL_cons, valL_cons]
          by_cases k4 : p.kd = 4
          · rw [if_pos k4, if_pos k4]; exact hway _ (Or.inr ⟨k4, rfl⟩) A
          rw [if_neg k4, if_neg k4]
          by_cases k3 : p.kd = 3
          · rw [if_pos k3, if_pos k3]
            split
            · exact hway _ (Or.inl ⟨k3, Or.inl rfl⟩) A
            · exact hway _ (Or.inl ⟨k3, Or.inr rfl⟩) A
          rw [if_neg k3, if_neg k3]
          by_cases k2 : p.kd = 2
          · rw [if_pos k2, if_pos k2]
            by_cases k6 : p.i.c % 8 = 6
            · rw [if_pos k6, if_pos k6]
            · rw [if_neg k6, if_neg k6]
              have he : endsB p = false := decide_eq_false (fun a => by rcases a with a | a; exact k4 a; exact k6 a.2)
              rw [ih.1 he, ih.1 he]
          · rw [if_neg k2, if_neg k2]
            have he : endsB p = false := decide_eq_false (fun a => by rcases a with a | a; exact k4 a; exact k2 a.1)
            exact ih.1 he A
        refine ⟨fun _ => ha, fun n a b A => ?_⟩
        by_cases e1 : p.kd = 1 ∧ p.to = n
        · rw [aft_here e1.1 e1.2, aft_here e1.1 e1.2]; exact ha A
        · rw [aft_other e1, aft_other e1]
          rcases has_cons.1 a with a | a
          · exact absurd a e1
          · exact ih.2 n a (by have := useN_nn n p; show 0 < c n + useN n p; omega) A
theorem round_val (W : Nat → Nat) {l : List PtM} (h : Fwd l) (A : Nat) : valL W (roundF l) A = valL W l A := by
  unfold roundF
  rw [(leav_same W _).all, aliveF_rec, leadF_rec, (alive_val W _ false _ (fun _ => 0) (fun _ => Int.le_refl _) (fun n => by rw [gW_uses]; show _ = (0 : Int) + _; omega) (lead_inv h).fwd).1 rfl, (lead_val W h).same.all]
theorem tidy_val (W : Nat → Nat) : ∀ (k : Nat) (x : List PtM), x.length < k → Fwd x → ∀ A, valL W (tidyF x) A = valL W x A
  | 0, _, h, _, _ => by omega
  | k + 1, x, h, hf, A => by
    by_cases e : (roundF x).length = x.length
    · rw [tidyF_end e]; exact round_val W hf A
    · rw [tidyF_on e, tidy_val W k (roundF x) (by have := roundF_len x; omega) (round_fwd hf)]
      exact round_val W hf A
end Go.Proofs.Ytcageojoafkojaa.Ju

