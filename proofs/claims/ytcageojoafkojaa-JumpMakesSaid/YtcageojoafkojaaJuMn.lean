/- What parts mean, and that their code does so: lists alone. -/
import Derived.Test.YtcageojoafkojaaJuTi
import Derived.Test.YtcageojoafkojaaJv
namespace Go.Proofs.Ytcageojoafkojaa.Ju
def endV : Nat := 2147483648
def farS (i : Ins) (A : Nat) : Nat := if i.c / 16 = 0 then i.k else if holdsN (i.c / 16) A i.k = true then i.t else i.f
def runS (W : Nat → Nat) : Nat → List Ins → Nat → Nat
  | 0, _, _ => endV
  | _ + 1, [], _ => endV
  | k + 1, i :: t, A => if i.c % 8 = 6 then i.k else if i.c % 8 = 5 then runS W k (t.drop (farS i A)) A else if i.c = 32 then runS W k t (W i.k) else runS W k t (A &&& i.k)
theorem runS_more (W : Nat → Nat) : ∀ (k j : Nat) (l : List Ins) (A : Nat), l.length < k → l.length < j → runS W k l A = runS W j l A
  | 0, _, _, _, h, _ => by omega
  | _ + 1, 0, _, _, _, h => by omega
  | _ + 1, _ + 1, [], _, _, _ => rfl
  | k + 1, j + 1, i :: t, A, h1, h2 => by
    rw [List.length_cons] at h1 h2
    unfold runS
    rw [runS_more W k j (t.drop (farS i A)) A (by rw [List.length_drop]; omega) (by rw [List.length_drop]; omega), runS_more W k j t (W i.k) (by omega) (by omega), runS_more W k j t (A &&& i.k) (by omega) (by omega)]
/-- What code answers, A as it stands. -/
def runL (W : Nat → Nat) (l : List Ins) (A : Nat) : Nat := runS W (l.length + 1) l A
theorem runL_cons (W : Nat → Nat) (i : Ins) (t : List Ins) (A : Nat) : runL W (i :: t) A = if i.c % 8 = 6 then i.k else if i.c % 8 = 5 then runL W (t.drop (farS i A)) A else if i.c = 32 then runL W t (W i.k) else runL W t (A &&& i.k) := by
  show runS W (t.length + 1 + 1) (i :: t) A = _
  unfold runL
  conv => lhs; unfold runS
  rw [runS_more W (t.length + 1) ((t.drop (farS i A)).length + 1) (t.drop (farS i A)) A (by rw [List.length_drop]; omega) (by omega)]
theorem run_skipL (W : Nat → Nat) (k : Nat) (t : List Ins) (A : Nat) : runL W (skipI k :: t) A = runL W (t.drop k) A := by
  rw [runL_cons, if_neg (by show ¬ 5 % 8 = 6; decide), if_pos (show (skipI k).c % 8 = 5 from rfl), show farS (skipI k) A = k by simp [farS, skipI]]
/-- The parts from a name on. -/
def aft (n : Int) : List PtM → List PtM
  | [] => []
  | p :: t => if p.kd = 1 ∧ p.to = n then p :: t else aft n t
theorem aft_len (n : Int) : ∀ l : List PtM, (aft n l).length ≤ l.length
  | [] => Nat.le_refl _
  | p :: t => by unfold aft; have := aft_len n t; split <;> simp; omega
def valN (W : Nat → Nat) : Nat → List PtM → Nat → Nat
  | 0, _, _ => endV
  | _ + 1, [], _ => endV
  | k + 1, p :: t, A => if p.kd = 4 then valN W k (aft p.to t) A else if p.kd = 3 then valN W k (aft (if holdsN (p.i.c / 16) A p.i.k = true then p.to else p.el) t) A
    else if p.kd = 2 then (if p.i.c % 8 = 6 then p.i.k else if p.i.c = 32 then valN W k t (W p.i.k) else valN W k t (A &&& p.i.k)) else valN W k t A
theorem valN_more (W : Nat → Nat) : ∀ (k j : Nat) (l : List PtM) (A : Nat), l.length < k → l.length < j → valN W k l A = valN W j l A
  | 0, _, _, _, h, _ => by omega
  | _ + 1, 0, _, _, _, h => by omega
  | _ + 1, _ + 1, [], _, _, _ => rfl
  | k + 1, j + 1, p :: t, A, h1, h2 => by
    rw [List.length_cons] at h1 h2
    have ha := fun n => aft_len n t
    unfold valN
    rw [valN_more W k j (aft p.to t) A (by have := ha p.to; omega) (by have := ha p.to; omega),
      valN_more W k j (aft (if holdsN (p.i.c / 16) A p.i.k = true then p.to else p.el) t) A (by have := ha (if holdsN (p.i.c / 16) A p.i.k = true then p.to else p.el); omega) (by have := ha (if holdsN (p.i.c / 16) A p.i.k = true then p.to else p.el); omega),
      valN_more W k j t (W p.i.k) (by omega) (by omega), valN_more W k j t (A &&& p.i.k) (by omega) (by omega), valN_more W k j t A (by omega) (by omega)]
/-- What parts say, A as it stands. -/
def valL (W : Nat → Nat) (l : List PtM) (A : Nat) : Nat := valN W (l.length + 1) l A
theorem valL_cons (W : Nat → Nat) (p : PtM) (t : List PtM) (A : Nat) : valL W (p :: t) A = if p.kd = 4 then valL W (aft p.to t) A else if p.kd = 3 then valL W (aft (if holdsN (p.i.c / 16) A p.i.k = true then p.to else p.el) t) A
    else if p.kd = 2 then (if p.i.c % 8 = 6 then p.i.k else if p.i.c = 32 then valL W t (W p.i.k) else valL W t (A &&& p.i.k)) else valL W t A := by
  show valN W (t.length + 1 + 1) (p :: t) A = _
  have ha := fun n => aft_len n t
  unfold valL
  conv => lhs; unfold valN
  rw [valN_more W (t.length + 1) ((aft p.to t).length + 1) (aft p.to t) A (by have := ha p.to; omega) (by omega),
    valN_more W (t.length + 1) ((aft (if holdsN (p.i.c / 16) A p.i.k = true then p.to else p.el) t).length + 1) (aft (if holdsN (p.i.c / 16) A p.i.k = true then p.to else p.el) t) A (by have := ha (if holdsN (p.i.c / 16) A p.i.k = true then p.to else p.el); omega) (by omega)]
/-- Of the kinds that these parts are of. -/
def Smp (p : PtM) : Prop := (p.kd = 2 → p.i.c = 32 ∨ p.i.c = 84 ∨ p.i.c = 6) ∧ (p.kd = 3 → p.i.c = 21 ∨ p.i.c = 37 ∨ p.i.c = 53 ∨ p.i.c = 69)
/-- Code does what the parts say. -/
structure Mns (W : Nat → Nat) (l : List PtM) (c : CdM) : Prop where
  all : ∀ A, runL W c.ins A = valL W l A
  at_ : ∀ n k, lk n c.bh = some k → k ≤ c.ins.length ∧ ∀ A, runL W (c.ins.drop (c.ins.length - k)) A = valL W (aft n l) A
theorem step_zero {p : PtM} {r : Nat × CdM} (h : (stepF p r).1 = 0) : r.1 = 0 ∧ (layF p r.2).1 = 0 ∧ (stepF p r).2 = (layF p r.2).2 := by
  unfold stepF at h ⊢
  by_cases h0 : r.1 ≠ 0
  · rw [if_pos h0] at h; exact absurd h h0
  · rw [if_neg h0] at h ⊢
    by_cases h1 : (layF p r.2).1 ≠ 0
    · rw [if_pos h1] at h; exact absurd h h1
    · rw [if_neg h1] at h ⊢
      by_cases h2 : 4096 < (layF p r.2).2.ins.length
      · rw [if_pos h2] at h; cases h
      · rw [if_neg h2]; exact ⟨by omega, by omega, rfl⟩
theorem aft_other {p : PtM} {t : List PtM} {n : Int} (h : ¬ (p.kd = 1 ∧ p.to = n)) : aft n (p :: t) = aft n t := by conv => lhs; unfold aft; rw [if_neg h]
theorem drop_more {x : List Ins} (y : List Ins) (k : Nat) (h : k ≤ y.length) : (x ++ y).drop ((x ++ y).length - k) = y.drop (y.length - k) := by
  rw [List.length_append, List.drop_append, List.drop_of_length_le (by omega), List.nil_append]
  congr 1; omega
/-- Instructions put ahead: what stands behind a name stays. -/
theorem Mns.ahead {W : Nat → Nat} {p : PtM} {t : List PtM} {c : CdM} (h : Mns W t c) (x : List Ins) (hk : p.kd ≠ 1) (ha : ∀ A, runL W (x ++ c.ins) A = valL W (p :: t) A) : Mns W (p :: t) ⟨x ++ c.ins, c.bh⟩ := by
  refine ⟨ha, fun n k hn => ?_⟩
  obtain ⟨h1, h2⟩ := h.at_ n k hn
  refine ⟨by rw [List.length_append]; omega, fun A => ?_⟩
  show runL W ((x ++ c.ins).drop ((x ++ c.ins).length - k)) A = _
  rw [drop_more c.ins k h1, aft_other (fun a => hk a.1)]
  exact h2 A
theorem make_mean (W : Nat → Nat) : ∀ l : List PtM, (∀ p ∈ l, Smp p) → (makeF l).1 = 0 → Mns W l (makeF l).2
  | [], _, _ => ⟨fun _ => rfl, fun n k h => by simp [makeF, lk] at h⟩
  | p :: t, hs, h => by
    rw [makeF_cons] at h ⊢
    obtain ⟨h0, h1, h2⟩ := step_zero h
    have ih := make_mean W t (fun q hq => hs q (List.mem_cons_of_mem _ hq)) h0
    obtain ⟨c, hc⟩ : ∃ c, c = (makeF t).2 := ⟨_, rfl⟩
    rw [← hc] at ih h1 h2
    obtain ⟨s2, s3⟩ := hs p List.mem_cons_self
    rw [h2]
    clear h h0 h2 hc hs
    unfold layF at h1 ⊢
    by_cases k1 : p.kd = 1
    · rw [if_pos k1] at h1 ⊢
      cases hl : lk p.to c.bh with
      | some v => rw [hl] at h1; cases h1
      | none =>
        simp only
        have hv : ∀ A, valL W (p :: t) A = valL W t A := fun A => by rw [valL_cons, if_neg (by omega), if_neg (by omega), if_neg (by omega)]
        refine ⟨fun A => by rw [hv]; exact ih.all A, fun n k hn => ?_⟩
        simp only [lk_cons] at hn ⊢
        by_cases e : p.to = n
        · rw [if_pos e] at hn
          cases hn
          refine ⟨Nat.le_refl _, fun A => ?_⟩
          rw [Nat.sub_self, List.drop_zero, show aft n (p :: t) = p :: t by conv => lhs; unfold aft; rw [if_pos ⟨k1, e⟩], hv]
          exact ih.all A
        · rw [if_neg e] at hn
          rw [aft_other (fun a => e a.2)]
          exact ih.at_ n k hn
    rw [if_neg k1] at h1 ⊢
    by_cases k2 : p.kd = 2
    · rw [if_pos k2] at h1 ⊢
      have hc := s2 k2
      rw [if_neg (by omega)]
      refine ih.ahead [p.i] k1 fun A => ?_
      show runL W (p.i :: c.ins) A = _
      rw [runL_cons, valL_cons, if_neg (show ¬ p.kd = 4 by omega), if_neg (show ¬ p.kd = 3 by omega), if_pos k2, if_neg (show ¬ p.i.c % 8 = 5 by omega), ih.all, ih.all]
    rw [if_neg k2] at h1 ⊢
    by_cases k3 : p.kd = 3
    · rw [if_pos k3] at h1 ⊢
      have hc := s3 k3
      rw [if_neg (by omega)] at h1 ⊢
      cases ht : lk p.to c.bh with
      | none => rw [ht] at h1; simp at h1
      | some bt =>
        cases hf : lk p.el c.bh with
        | none => rw [ht, hf] at h1; simp at h1
        | some bf =>
          simp only
          obtain ⟨t1, t2⟩ := ih.at_ _ _ ht
          obtain ⟨f1, f2⟩ := ih.at_ _ _ hf
          have hv : ∀ A, valL W (p :: t) A = if holdsN (p.i.c / 16) A p.i.k = true then valL W (aft p.to t) A else valL W (aft p.el t) A := fun A => by
            rw [valL_cons, if_neg (show ¬ p.kd = 4 by omega), if_pos k3]
            split <;> rfl
          have hr : ∀ (a b : Nat) (x : List Ins) (A : Nat), runL W (⟨p.i.c, a, b, p.i.k⟩ :: x) A = if holdsN (p.i.c / 16) A p.i.k = true then runL W (x.drop a) A else runL W (x.drop b) A := fun a b x A => by
            rw [runL_cons, if_neg (by show ¬ p.i.c % 8 = 6; omega), if_pos (by show p.i.c % 8 = 5; omega)]
            unfold farS
            rw [if_neg (by show ¬ p.i.c / 16 = 0; omega)]
            show runL W (x.drop (if holdsN (p.i.c / 16) A p.i.k = true then a else b)) A = _
            split <;> rfl
          obtain ⟨L, hL⟩ : ∃ L, L = c.ins := ⟨_, rfl⟩
          rw [← hL] at t1 t2 f1 f2
          have e1 : reachF L bf = if L.length - bf ≤ 253 then (L.length - bf, L) else (0, skipI (L.length - bf) :: L) := rfl
          rw [← hL]
          by_cases g1 : L.length - bf ≤ 253
          · rw [if_pos g1] at e1
            have e2 : reachF L bt = if L.length - bt ≤ 253 then (L.length - bt, L) else (0, skipI (L.length - bt) :: L) := rfl
            by_cases g2 : L.length - bt ≤ 253
            · rw [if_pos g2] at e2
              have e : cmpF L p.i bt bf = [⟨p.i.c, L.length - bt, L.length - bf, p.i.k⟩] ++ c.ins := by unfold cmpF; rw [e1]; simp only; rw [e2, ← hL]; simp
              rw [e]
              refine ih.ahead _ k1 fun A => ?_
              rw [List.cons_append, List.nil_append, hr, hv, ← hL, t2, f2]
            · rw [if_neg g2] at e2
              have e : cmpF L p.i bt bf = [⟨p.i.c, 0, L.length - bf + 1, p.i.k⟩, skipI (L.length - bt)] ++ c.ins := by unfold cmpF; rw [e1]; simp only; rw [e2, ← hL]; simp
              rw [e]
              refine ih.ahead _ k1 fun A => ?_
              rw [List.cons_append, List.cons_append, List.nil_append, hr, hv, ← hL, List.drop_zero, run_skipL, List.drop_succ_cons, t2, f2]
          · rw [if_neg g1] at e1
            have e2 : reachF (skipI (L.length - bf) :: L) bt = if L.length + 1 - bt ≤ 253 then (L.length + 1 - bt, skipI (L.length - bf) :: L) else (0, skipI (L.length + 1 - bt) :: skipI (L.length - bf) :: L) := rfl
            have e3 : (skipI (L.length - bf) :: L).drop (L.length + 1 - bt) = L.drop (L.length - bt) := by
              rw [show L.length + 1 - bt = (L.length - bt) + 1 from by omega, List.drop_succ_cons]
            by_cases g2 : L.length + 1 - bt ≤ 253
            · rw [if_pos g2] at e2
              have e : cmpF L p.i bt bf = [⟨p.i.c, L.length + 1 - bt, 0, p.i.k⟩, skipI (L.length - bf)] ++ c.ins := by unfold cmpF; rw [e1]; simp only; rw [e2, ← hL]; simp
              rw [e]
              refine ih.ahead _ k1 fun A => ?_
              rw [List.cons_append, List.cons_append, List.nil_append, hr, hv, ← hL, List.drop_zero, run_skipL, e3, t2, f2]
            · rw [if_neg g2] at e2
              have e : cmpF L p.i bt bf = [⟨p.i.c, 0, 1, p.i.k⟩, skipI (L.length + 1 - bt), skipI (L.length - bf)] ++ c.ins := by unfold cmpF; rw [e1]; simp only; rw [e2, ← hL]; simp
              rw [e]
              refine ih.ahead _ k1 fun A => ?_
              rw [List.cons_append, List.cons_append, List.cons_append, List.nil_append, hr, hv, ← hL, List.drop_zero, List.drop_succ_cons, List.drop_zero, run_skipL, run_skipL, e3, t2, f2]
    rw [if_neg k3] at h1 ⊢
    by_cases k4 : p.kd = 4
    · rw [if_pos k4] at h1 ⊢
      cases ht : lk p.to c.bh with
      | none => rw [ht] at h1; cases h1
      | some b =>
        simp only
        obtain ⟨t1, t2⟩ := ih.at_ _ _ ht
        refine ih.ahead [skipI (c.ins.length - b)] k1 fun A => ?_
        show runL W (skipI (c.ins.length - b) :: c.ins) A = _
        rw [run_skipL, t2, valL_cons, if_pos k4]
    · rw [if_neg k4] at h1; cases h1
end Go.Proofs.Ytcageojoafkojaa.Ju

