/- Tidied parts mean the same: lists alone. -/
import Derived.Test.YtcageojoafkojaaK11
import Derived.Test.YtcageojoafkojaaK10
import Derived.Test.YtcageojoafkojaaK01
import Derived.ProofKit
import Derived.OpenShut
import Derived.SliceStrings
import Derived.ChangeOld
import Derived.DeepKeys4
import Derived.Maps.OwnSet
import Derived.Maps.OwnOps
import Derived.Maps.Views
namespace Go.Proofs.Ytcageojoafkojaa.Ju
theorem val_here {W : Nat → Nat} {p : PtM} {t : List PtM} (h : p.kd = 1) (A : Nat) : valL W (p :: t) A = valL W t A := by rw [valL_cons, if_neg (by omega), if_neg (by omega), if_neg (by omega)]
theorem aft_here {p : PtM} {t : List PtM} {n : Int} (h : p.kd = 1) (e : p.tQ = n) : aft n (p :: t) = p :: t := by conv => lhs; unfold aft; rw [if_pos ⟨h, e⟩]
/-- They mean the same, from the start and from each name. -/
structure Same (W : Nat → Nat) (x y : List PtM) : Prop where
  all : ∀ A, valL W x A = valL W y A
  at_ : ∀ n A, valL W (aft n x) A = valL W (aft n y) A
theorem Same.cons {W : Nat → Nat} {x y : List PtM} (h : Same W x y) (p : PtM) : Same W (p :: x) (p :: y) := by
  have ha : ∀ A, valL W (p :: x) A = valL W (p :: y) A := fun A => by
    rw [valL_cons, valL_cons, h.at_ p.tQ A, h.at_ _ A, h.all, h.all, h.all]
  refine ⟨ha, fun n A => ?_⟩
  by_cases e : p.kd = 1 ∧ p.tQ = n
  · rw [aft_here e.1 e.2, aft_here e.1 e.2]; exact ha A
  · rw [aft_other e, aft_other e]; exact h.at_ n A
/-- What leading leaves of the meaning. -/
structure LdV (W : Nat → Nat) (z : List PtM) (s : LdM) : Prop where
  same : Same W s.l z
  o : ∀ n t, lk n s.o = some t → ∀ A, valL W (aft n z) A = valL W (aft t z) A
  nx : s.nx.kd = 4 → ∀ A, valL W z A = valL W (aft s.nx.tQ z) A
end Go.Proofs.Ytcageojoafkojaa.Ju
namespace Go.Proofs.Ytcageojoafkojaa.Ju
/-! It may be loaded. -/
def AllA : List Ins → Prop
  | [] => True
  | i :: l => alone i l.length = 0 ∧ AllA l
theorem all_at : ∀ {l : List Ins}, AllA l → ∀ (a : Nat) (i : Ins), l[a]? = some i → alone i (l.length - a - 1) = 0
  | j :: l, h, 0, i, hi => by
    simp only [List.getElem?_cons_zero, Option.some.injEq] at hi
    subst hi
    rw [List.length_cons, show l.length + 1 - 0 - 1 = l.length from by omega]
    exact h.1
  | j :: l, h, a + 1, i, hi => by
    rw [List.getElem?_cons_succ] at hi
    rw [List.length_cons, show l.length + 1 - (a + 1) - 1 = l.length - a - 1 from by omega]
    exact all_at h.2 a i hi
theorem alone_skip {k n : Nat} (h : k < n) : alone (skipI k) n = 0 := by
  have e : jumpB (skipI k) n = true := by
    show (false || ([k].all fun d => decide (d < n))) = true
    simp [h]
  unfold alone
  rw [e]; rfl
end Go.Proofs.Ytcageojoafkojaa.Ju
namespace Go.Proofs.Ytcageojoafkojaa.Ju
def wtP (p : PtM) : Nat := if p.kd = 3 then 3 else if p.kd = 2 ∨ p.kd = 4 then 1 else 0
def wtL : List PtM → Nat
  | [] => 0
  | p :: t => wtP p + wtL t
/-- Parts of the four kinds, their instructions fine. -/
structure Fin1 (p : PtM) : Prop where
  smp : Smp p
  kd : p.kd = 1 ∨ p.kd = 2 ∨ p.kd = 3 ∨ p.kd = 4
  rg : p.kd = 2 → rangeB p.i = true
/-- The last part ends. -/
def LastR : List PtM → Prop
  | [] => False
  | p :: t => (t = [] ∧ p.kd = 2 ∧ p.i.c % 8 = 6) ∨ LastR t
/-- What is known of the code. -/
structure Cod (l : List PtM) (r : Nat × CdM) : Prop where
  ok : r.1 = 0
  nm : ∀ n, HasN n l → ∃ k, lk n r.2.bh = some k
  no : ∀ n, ¬ HasN n l → lk n r.2.bh = none
  at_ : ∀ n k, lk n r.2.bh = some k → 1 ≤ k ∧ k ≤ r.2.ins.length
  len : r.2.ins.length ≤ wtL l
  pos : 1 ≤ r.2.ins.length
  all : AllA r.2.ins
  smp : ∀ i ∈ r.2.ins, i.c = 32 ∨ i.c = 84 ∨ i.c = 6 ∨ i.c = 5 ∨ i.c = 21 ∨ i.c = 37 ∨ i.c = 53 ∨ i.c = 69
  ends : ∀ i, r.2.ins[r.2.ins.length - 1]? = some i → i.c % 8 = 6
theorem last_app {x y : List Ins} (hy : 1 ≤ y.length) (h : ∀ i, y[y.length - 1]? = some i → i.c % 8 = 6) : ∀ i, (x ++ y)[(x ++ y).length - 1]? = some i → i.c % 8 = 6 := fun i hi => by
  rw [List.length_append, List.getElem?_append_right (by omega), show x.length + y.length - 1 - x.length = y.length - 1 from by omega] at hi
  exact h i hi
theorem alone_if4 {c t f k n : Nat} (hc : c = 21 ∨ c = 37 ∨ c = 53 ∨ c = 69) (ht : t < n) (hf : f < n) : alone ⟨c, t, f, k⟩ n = 0 := by
  have e : jumpB ⟨c, t, f, k⟩ n = true := by
    rcases hc with rfl | rfl | rfl | rfl <;> simp [jumpB, rel, ht, hf]
  unfold alone
  rw [e]
  rcases hc with rfl | rfl | rfl | rfl <;> rfl
theorem alone_plain {i : Ins} {n : Nat} (hc : i.c = 32 ∨ i.c = 84 ∨ i.c = 6) (hr : rangeB i = true) (_ : 0 < n ∨ i.c = 6) : alone i n = 0 := by
  have e : jumpB i n = true := by
    unfold jumpB
    rcases hc with h | h | h <;> rw [h] <;> rfl
  have k : knownB i.c = true := by rcases hc with h | h | h <;> rw [h] <;> rfl
  unfold alone
  rw [e, hr, k]; rfl
theorem all_app : ∀ {x y : List Ins}, AllA y → (∀ (a : Nat) (i : Ins), x[a]? = some i → alone i (x.length - a - 1 + y.length) = 0) → AllA (x ++ y)
  | [], _, h, _ => h
  | i :: x, y, h, hx => by
    refine ⟨?_, all_app h fun a j hj => ?_⟩
    · have := hx 0 i rfl
      show alone i (x ++ y).length = 0
      rw [List.length_append]
      rw [List.length_cons] at this
      rw [show x.length + y.length = x.length + 1 - 0 - 1 + y.length from by omega]; exact this
    · have := hx (a + 1) j (by rw [List.getElem?_cons_succ]; exact hj)
      rw [List.length_cons] at this
      rw [show x.length - a - 1 + y.length = x.length + 1 - (a + 1) - 1 + y.length from by omega]; exact this
theorem step_of {p : PtM} {r : Nat × CdM} (h0 : r.1 = 0) (h2 : (layF p r.2).2.ins.length ≤ 4096) : stepF p r = layF p r.2 := by
  rw [show r = (0, r.2) from Prod.ext h0 rfl]
  exact step_eq h2
/-- A part's code put ahead. -/
theorem Cod.ahead {p : PtM} {t : List PtM} {r : Nat × CdM} (h : Cod t r) (x : List Ins) (hk : p.kd ≠ 1) (hx : x.length ≤ wtP p) (hw : wtL (p :: t) ≤ 4096) (hl : layF p r.2 = (0, ⟨x ++ r.2.ins, r.2.bh⟩))
    (ha : ∀ (a : Nat) (i : Ins), x[a]? = some i → alone i (x.length - a - 1 + r.2.ins.length) = 0) (hs : ∀ i ∈ x, i.c = 32 ∨ i.c = 84 ∨ i.c = 6 ∨ i.c = 5 ∨ i.c = 21 ∨ i.c = 37 ∨ i.c = 53 ∨ i.c = 69) : Cod (p :: t) (stepF p r) := by
  have hlen := h.len
  have hwt : wtL (p :: t) = wtP p + wtL t := rfl
  rw [step_of h.ok (by rw [hl]; simp only [List.length_append]; omega), hl]
  have hh : ∀ n, HasN n (p :: t) ↔ HasN n t := fun n => by
    rw [has_cons]
    exact ⟨fun a => by rcases a with ⟨a, _⟩ | a; exact absurd a hk; exact a, Or.inr⟩
  exact ⟨rfl, fun n a => h.nm n ((hh n).1 a), fun n a => h.no n (fun b => a ((hh n).2 b)), fun n k a => by have := h.at_ n k a; simp only [List.length_append]; omega,
    by simp only [List.length_append]; omega, by have := h.pos; simp only [List.length_append]; omega, all_app h.all ha,
    fun i hi => by rcases List.mem_append.1 hi with b | b; exact hs i b; exact h.smp i b, last_app h.pos h.ends⟩
theorem one_at {i : Ins} {Q : Nat → Ins → Prop} (h : Q 0 i) : ∀ (a : Nat) (j : Ins), [i][a]? = some j → Q a j := fun a j hj => by
  match a, hj with
  | 0, hj => simp at hj; subst hj; exact h
  | a + 1, hj => simp at hj
theorem make_cod : ∀ l : List PtM, Fwd l → (∀ p ∈ l, Fin1 p) → LastR l → wtL l ≤ 4096 → Cod l (makeF l)
  | [], _, _, h, _ => h.elim
  | p :: t, hf, hs, hl, hw => by
    have hwt : wtL (p :: t) = wtP p + wtL t := rfl
    have hp := hs p List.mem_cons_self
    rcases hl with ⟨rfl, k2, k6⟩ | hl
    · have e : layF p ⟨[], []⟩ = (0, ⟨[p.i], []⟩) := by unfold layF; rw [if_neg (by omega), if_pos k2, if_neg (by omega)]
      have em : makeF [p] = (0, ⟨[p.i], []⟩) := by
        rw [makeF_cons, show makeF [] = (0, ⟨[], []⟩) from rfl, step_eq (by rw [e]; simp), e]
      rw [em]
      have hc := hp.smp.1 k2
      have hh : ∀ n, ¬ HasN n [p] := fun n a => by rcases has_cons.1 a with ⟨a, _⟩ | a; omega; exact has_nil n a
      have hw1 : wtP p = 1 := by unfold wtP; rw [if_neg (by omega), if_pos (Or.inl k2)]
      refine ⟨rfl, fun n a => absurd a (hh n), fun n _ => rfl, fun n k a => by simp [lk] at a, by rw [hwt, hw1]; simp, by simp, ⟨alone_plain hc (hp.rg k2) (Or.inr (by omega)), trivial⟩, fun i hi => ?_, fun i hi => ?_⟩
      · rw [List.mem_singleton] at hi; subst hi; omega
      · simp at hi; subst hi; exact k6
    · have ih := make_cod t hf.1 (fun q hq => hs q (List.mem_cons_of_mem _ hq)) hl (by omega)
      rw [makeF_cons]
      obtain ⟨r, hr⟩ : ∃ r, r = makeF t := ⟨_, rfl⟩
      rw [← hr] at ih ⊢
      have hpos := ih.pos
      have hlen := ih.len
      by_cases k1 : p.kd = 1
      · have hno := hf.2.1 k1
        have e : layF p r.2 = (0, ⟨r.2.ins, (p.tQ, r.2.ins.length) :: r.2.bh⟩) := by unfold layF; rw [if_pos k1, ih.no _ hno]
        rw [step_of ih.ok (by rw [e]; simp only; omega), e]
        refine ⟨rfl, fun n a => ?_, fun n a => ?_, fun n k a => ?_, by simp only; omega, ih.pos, ih.all, ih.smp, ih.ends⟩
        · simp only [lk_cons]
          by_cases en : p.tQ = n
          · rw [if_pos en]; exact ⟨_, rfl⟩
          · rw [if_neg en]
            rcases has_cons.1 a with ⟨_, a⟩ | a
            · exact absurd a en
            · exact ih.nm n a
        · simp only [lk_cons]
          rw [if_neg (fun en => a (has_cons.2 (Or.inl ⟨k1, en⟩)))]
          exact ih.no n (fun b => a (has_cons.2 (Or.inr b)))
        · simp only [lk_cons] at a
          split at a
          · cases a; exact ⟨hpos, Nat.le_refl _⟩
          · exact ih.at_ n k a
      by_cases k2 : p.kd = 2
      · have hc := hp.smp.1 k2
        have e : layF p r.2 = (0, ⟨[p.i] ++ r.2.ins, r.2.bh⟩) := by unfold layF; rw [if_neg k1, if_pos k2, if_neg (by omega)]; rfl
        refine ih.ahead [p.i] k1 (by unfold wtP; rw [if_neg (by omega), if_pos (Or.inl k2)]; simp) hw e (one_at (Q := fun a i => alone i ([p.i].length - a - 1 + r.2.ins.length) = 0) (alone_plain hc (hp.rg k2) (Or.inl (by omega)))) (fun i hi => by rw [List.mem_singleton] at hi; subst hi; omega)
      by_cases k4 : p.kd = 4
      · obtain ⟨b, hb⟩ := ih.nm p.tQ (hf.2.2 p.tQ (Or.inr ⟨k4, rfl⟩))
        obtain ⟨b1, b2⟩ := ih.at_ _ _ hb
        have e : layF p r.2 = (0, ⟨[skipI (r.2.ins.length - b)] ++ r.2.ins, r.2.bh⟩) := by unfold layF; rw [if_neg k1, if_neg k2, if_neg (by omega), if_pos k4, hb]; rfl
        refine ih.ahead _ k1 (by unfold wtP; rw [if_neg (by omega), if_pos (Or.inr k4)]; simp) hw e (one_at (Q := fun a i => alone i ([skipI (r.2.ins.length - b)].length - a - 1 + r.2.ins.length) = 0) (alone_skip (by simp; omega))) (fun i hi => by rw [List.mem_singleton] at hi; subst hi; exact Or.inr (Or.inr (Or.inr (Or.inl rfl))))
      have k3 : p.kd = 3 := by have := hp.kd; omega
      have hc := hp.smp.2 k3
      obtain ⟨bt, hbt⟩ := ih.nm p.tQ (hf.2.2 p.tQ (Or.inl ⟨k3, Or.inl rfl⟩))
      obtain ⟨bf, hbf⟩ := ih.nm p.el (hf.2.2 p.el (Or.inl ⟨k3, Or.inr rfl⟩))
      obtain ⟨t1, t2⟩ := ih.at_ _ _ hbt
      obtain ⟨f1, f2⟩ := ih.at_ _ _ hbf
      have e : layF p r.2 = (0, ⟨cmpF r.2.ins p.i bt bf, r.2.bh⟩) := by unfold layF; rw [if_neg k1, if_neg k2, if_pos k3, if_neg (by omega), hbt, hbf]
      obtain ⟨L, hL⟩ : ∃ L, L = r.2.ins := ⟨_, rfl⟩
      have hw3 : wtP p = 3 := by unfold wtP; rw [if_pos k3]
      have h5 : ∀ k, (skipI k).c = 32 ∨ (skipI k).c = 84 ∨ (skipI k).c = 6 ∨ (skipI k).c = 5 ∨ (skipI k).c = 21 ∨ (skipI k).c = 37 ∨ (skipI k).c = 53 ∨ (skipI k).c = 69 := fun k => Or.inr (Or.inr (Or.inr (Or.inl rfl)))
      have hi4 : ∀ a b, (⟨p.i.c, a, b, p.i.k⟩ : Ins).c = 32 ∨ (⟨p.i.c, a, b, p.i.k⟩ : Ins).c = 84 ∨ (⟨p.i.c, a, b, p.i.k⟩ : Ins).c = 6 ∨ (⟨p.i.c, a, b, p.i.k⟩ : Ins).c = 5 ∨ (⟨p.i.c, a, b, p.i.k⟩ : Ins).c = 21 ∨ (⟨p.i.c, a, b, p.i.k⟩ : Ins).c = 37 ∨ (⟨p.i.c, a, b, p.i.k⟩ : Ins).c = 53 ∨ (⟨p.i.c, a, b, p.i.k⟩ : Ins).c = 69 := fun a b => by simp only; omega
      have e1 : reachF L bf = if L.length - bf ≤ 253 then (L.length - bf, L) else (0, skipI (L.length - bf) :: L) := rfl
      rw [← hL] at e t2 f2 hpos hlen
      by_cases g1 : L.length - bf ≤ 253
      · rw [if_pos g1] at e1
        have e2 : reachF L bt = if L.length - bt ≤ 253 then (L.length - bt, L) else (0, skipI (L.length - bt) :: L) := rfl
        by_cases g2 : L.length - bt ≤ 253
        · rw [if_pos g2] at e2
          have ec : cmpF L p.i bt bf = [⟨p.i.c, L.length - bt, L.length - bf, p.i.k⟩] ++ L := by unfold cmpF; rw [e1]; simp only; rw [e2]; simp
          rw [ec, hL] at e
          refine ih.ahead _ k1 (by rw [hw3]; simp) hw e (fun a i hi => ?_) (fun i hi => ?_)
          · match a, hi with
            | 0, hi => simp at hi; subst hi; exact alone_if4 hc (by simp [← hL] <;> omega) (by simp [← hL] <;> omega)
            | a + 1, hi => simp at hi
          · rw [List.mem_singleton] at hi; subst hi; exact hi4 _ _
        · rw [if_neg g2] at e2
          have ec : cmpF L p.i bt bf = [⟨p.i.c, 0, L.length - bf + 1, p.i.k⟩, skipI (L.length - bt)] ++ L := by unfold cmpF; rw [e1]; simp only; rw [e2]; simp
          rw [ec, hL] at e
          refine ih.ahead _ k1 (by rw [hw3]; simp) hw e (fun a i hi => ?_) (fun i hi => ?_)
          · match a, hi with
            | 0, hi => simp at hi; subst hi; exact alone_if4 hc (by simp [← hL] <;> omega) (by simp [← hL] <;> omega)
            | 1, hi => simp at hi; subst hi; exact alone_skip (by simp [← hL] <;> omega)
            | a + 2, hi => simp at hi
          · rcases List.mem_cons.1 hi with rfl | hi
            · exact hi4 _ _
            · rw [List.mem_singleton] at hi; subst hi; exact h5 _
      · rw [if_neg g1] at e1
        have e2 : reachF (skipI (L.length - bf) :: L) bt = if L.length + 1 - bt ≤ 253 then (L.length + 1 - bt, skipI (L.length - bf) :: L) else (0, skipI (L.length + 1 - bt) :: skipI (L.length - bf) :: L) := rfl
        by_cases g2 : L.length + 1 - bt ≤ 253
        · rw [if_pos g2] at e2
          have ec : cmpF L p.i bt bf = [⟨p.i.c, L.length + 1 - bt, 0, p.i.k⟩, skipI (L.length - bf)] ++ L := by unfold cmpF; rw [e1]; simp only; rw [e2]; simp
          rw [ec, hL] at e
          refine ih.ahead _ k1 (by rw [hw3]; simp) hw e (fun a i hi => ?_) (fun i hi => ?_)
          · match a, hi with
            | 0, hi => simp at hi; subst hi; exact alone_if4 hc (by simp [← hL] <;> omega) (by simp [← hL] <;> omega)
            | 1, hi => simp at hi; subst hi; exact alone_skip (by simp [← hL] <;> omega)
            | a + 2, hi => simp at hi
          · rcases List.mem_cons.1 hi with rfl | hi
            · exact hi4 _ _
            · rw [List.mem_singleton] at hi; subst hi; exact h5 _
        · rw [if_neg g2] at e2
          have ec : cmpF L p.i bt bf = [⟨p.i.c, 0, 1, p.i.k⟩, skipI (L.length + 1 - bt), skipI (L.length - bf)] ++ L := by unfold cmpF; rw [e1]; simp only; rw [e2]; simp
          rw [ec, hL] at e
          refine ih.ahead _ k1 (by rw [hw3]; simp) hw e (fun a i hi => ?_) (fun i hi => ?_)
          · match a, hi with
            | 0, hi => simp at hi; subst hi; exact alone_if4 hc (by simp [← hL] <;> omega) (by simp [← hL] <;> omega)
            | 1, hi => simp at hi; subst hi; exact alone_skip (by simp [← hL] <;> omega)
            | 2, hi => simp at hi; subst hi; exact alone_skip (by simp [← hL] <;> omega)
            | a + 3, hi => simp at hi
          · rcases List.mem_cons.1 hi with rfl | hi
            · exact hi4 _ _
            · rcases List.mem_cons.1 hi with rfl | hi
              · exact h5 _
              · rw [List.mem_singleton] at hi; subst hi; exact h5 _
end Go.Proofs.Ytcageojoafkojaa.Ju
namespace Go.Proofs.Ytcageojoafkojaa.Ju
def SmpI (i : Ins) : Prop := i.c = 32 ∨ i.c = 84 ∨ i.c = 6 ∨ i.c = 5 ∨ i.c = 21 ∨ i.c = 37 ∨ i.c = 53 ∨ i.c = 69
theorem step_far (W : Nat → Nat) (i : Ins) (s : Mc) (h : i.c = 5 ∨ i.c = 21 ∨ i.c = 37 ∨ i.c = 53 ∨ i.c = 69) : stepN W i s = ({ s with nx := s.nx + 1 + farS i s.a }, none) := by
  have ho : opd i s = i.k := by unfold opd; rw [if_neg (by omega)]
  have hf : farN i s = farS i s.a := by unfold farN farS; rw [ho]
  unfold stepN
  rw [if_neg (by omega), if_neg (by omega), if_neg (by omega), if_neg (by omega), if_neg (by omega), if_pos (by omega), hf]
theorem exec_runL (W : Nat → Nat) (l : List Ins) (hs : ∀ i ∈ l, SmpI i) : ∀ (n : Nat) (s : Mc), l.length - s.nx ≤ n → (exec W l n s).2 = runL W (l.drop s.nx) s.a
  | 0, s, h => by
    rw [List.drop_of_length_le (by omega)]; rfl
  | n + 1, s, h => by
    cases hi : l[s.nx]? with
    | none =>
      unfold exec
      rw [hi, List.drop_of_length_le (List.getElem?_eq_none_iff.1 hi)]; rfl
    | some i =>
      obtain ⟨h1, h2⟩ := List.getElem?_eq_some_iff.1 hi
      have hd : l.drop s.nx = i :: l.drop (s.nx + 1) := by rw [List.drop_eq_getElem_cons h1, h2]
      have hsm := hs i (List.mem_of_getElem? hi)
      have go : ∀ s', stepN W i s = (s', none) → s.nx < s'.nx → (exec W l (n + 1) s).2 = runL W (l.drop s'.nx) s'.a := fun s' e hlt => by
        have ih := exec_runL W l hs n s' (by omega)
        conv => lhs; unfold exec
        rw [hi]
        simp only [e]
        exact ih
      rw [hd, runL_cons]
      have hx : ∀ k, l.drop (s.nx + 1 + k) = (l.drop (s.nx + 1)).drop k := fun k => by rw [List.drop_drop]
      obtain ⟨c, t, f, k⟩ := i
      rcases hsm with h | h | h | h | h | h | h | h <;> simp only at h <;> subst h
      · rw [go { s with a := W k, nx := s.nx + 1 } (by simp [stepN, ldN]) (by simp only; omega)]; simp
      · rw [go { s with a := s.a &&& k, nx := s.nx + 1 } (by simp [stepN, reckN, opd]) (by simp only; omega)]; simp
      · conv => lhs; unfold exec
        rw [hi]
        simp [stepN]
      all_goals
        rw [go _ (step_far W _ s (by simp)) (by simp only; omega)]
        simp only [hx]
        rfl
theorem run_code (W : Nat → Nat) {l : List Ins} (hs : ∀ i ∈ l, SmpI i) : (runN W l).2 = runL W l 0 := by
  unfold runN
  rw [exec_runL W l hs _ _ (Nat.sub_le _ _)]; rfl
theorem cod_good {l : List PtM} {r : Nat × CdM} (h : Cod l r) (hw : wtL l ≤ 4096) : Good r.2.ins := by
  have := h.len
  refine ⟨h.pos, by omega, all_at h.all, h.ends, fun a i hi ht => ?_⟩
  have hs := h.smp i (List.mem_of_getElem? hi)
  unfold takes at ht
  simp only [Bool.or_eq_true, beq_iff_eq] at ht
  omega
/-! What tidying keeps. -/
end Go.Proofs.Ytcageojoafkojaa.Ju
namespace Go.Proofs.Ytcageojoafkojaa.Ju
theorem fin_plain {p : PtM} (hk : p.kd = 2) (hc : p.i.c = 32 ∨ p.i.c = 84 ∨ p.i.c = 6) (hr : rangeB p.i = true) : Fin1 p := ⟨⟨fun _ => hc, fun a => by omega⟩, Or.inr (Or.inl hk), fun _ => hr⟩
theorem fin_name {p : PtM} (hk : p.kd = 1 ∨ p.kd = 4) : Fin1 p := ⟨⟨fun a => by omega, fun a => by omega⟩, by omega, fun a => by omega⟩
theorem last_appR : ∀ {a b : List PtM}, LastR b → LastR (a ++ b)
  | [], _, h => h
  | _ :: a, _, h => Or.inr (last_appR (a := a) h)
/-- What is known of both lists of parts. -/
structure Runs (x z : List PtM) : Prop where
  cod : Cod z (makeF z)
  good : Good (makeF z).2.ins
  says : ∀ W : Nat → Nat, (runN W (makeF z).2.ins).2 = valL W x 0
/-! The law's own run of parts. -/
end Go.Proofs.Ytcageojoafkojaa.Ju
namespace Go.Proofs.Ytcageojoafkojaa
open Go.RowKit
end Go.Proofs.Ytcageojoafkojaa
namespace Go.Proofs.Ytcageojoafkojaa
open Go.RowKit Go.ChangeShapes Go.WideShapes Go.ChangeAt Go.WideElems
theorem add_at' (b o j : Nat) : (⟨b, o, none⟩ : Addr).add j = ⟨b, o + j, none⟩ := by unfold Addr.add; split <;> simp_all
theorem cell_lt {w : World} {a : Addr} {v : Value} (h : w.cell? a = some v) : a.block < w.heap.size ∧ a.spot = none := by
  refine ⟨?_, ?_⟩
  · unfold World.cell? at h
    split at h
    · rename_i h2; exact (Array.getElem?_eq_some_iff.1 h2).1
    · cases h
  · unfold World.cell? at h
    split at h
    · split at h
      · cases h
      · rename_i h3; simpa using h3
    · cases h
theorem rd_of {w : World} {z n : Nat} {a : Addr} {xs : List Value} (hl : xs.length = n * z) (hz : 0 < z) (h : ∀ j u, xs[j]? = some u → w.cell? (a.add j) = some u) : Rd w z n (some a) xs := by
  refine ⟨hl, ?_⟩
  rcases Nat.eq_zero_or_pos n with h0 | h0
  · exact .inl h0
  · right
    have hp : 0 < xs.length := by rw [hl]; exact Nat.mul_pos h0 hz
    obtain ⟨h1, h2⟩ := cell_lt (h 0 _ (List.getElem?_eq_getElem hp))
    obtain ⟨b, o, spot⟩ := a
    have hs : spot = none := by simpa [Addr.add] using h2
    subst hs
    exact ⟨b, o, rfl, by simpa [Addr.add] using h1, fun j u hu => by rw [← add_at']; exact h j u hu⟩
/-- A list of whole numbers that the law is handed, as the card's frame opens it. -/
def IsRow (k : IntKind) (w : World) (A : Option Addr) (len cap : Nat) (zs : List Int) : Prop :=
  (A = none ∧ len = 0 ∧ cap = 0 ∧ zs = []) ∨ ∃ a, A = some a ∧ len ≤ cap ∧ cap ≤ maxLen ∧ zs.length = cap ∧ (∀ i, i < zs.length → w.cell? (a.add i) = some (.int k (zs.getD i 0))) ∧ ∀ n ∈ zs, (Lit.int k n).wf = true
end Go.Proofs.Ytcageojoafkojaa
namespace Go.Proofs.Ytcageojoafkojaa.Ir
open Go.RowKit Go.Maps Go.WideMaps Go.WideElems Go.ChangeMaps
deriving instance DecidableEq for CondM
def neverB (c : CondM) : Bool := decide (c.op = 3 ∧ c.val = 0 ∨ c.op = 5 ∧ c.val = 18446744073709551615)
def alwaysB (c : CondM) : Bool := decide (0 ≤ c.arg ∧ c.arg ≤ 5 ∧ (c.op = 6 ∧ c.val = 0 ∨ c.op = 4 ∧ c.val = 18446744073709551615))
/-- The conditions that have tQ be asked, behind those laid (left), the numbers that have tQ be equal being E; none: they never hold together. -/
def needF : List (Int × Nat) → List CondM → List CondM → Option (List CondM)
  | _, left, [] => some left
  | E, left, c :: r =>
    if neverB c then none
    else if c.op = 1 then (if (c.arg, c.val) ∈ E ∨ ∀ e ∈ E, e.1 ≠ c.arg then needF (E ++ [(c.arg, c.val)]) (if c ∈ left ∨ alwaysB c = true then left else left ++ [c]) r else none)
    else needF E (if c ∈ left ∨ alwaysB c = true then left else left ++ [c]) r
section
variable {H : Type}
def eqD (E : List (Int × Nat)) : DataW H := E.foldl (fun d p => d.put (.int .i64 p.1) (.lit (.int .u64 (p.2 : Nat)))) (.map [])
def unD (ks : List Lit) : DataW H := ks.foldl (fun d k => d.put k (.agg [])) (.map [])
end
/-! Conditions as keys. -/
theorem laid : laidOutB Try.prog = true := by kernel_rfl
noncomputable def condK (c : CondM) : Lit := (keyOf Try.prog 58 (.agg c.cells.toArray)).getD .nil
/-- 'v, ok := m[k]' at the operation. -/
theorem wpList_lookup_ok {H : Type} {P : Program} (w : World) {ops : Array Oper} {rest : List Oper} {o : Oper} {a : Act} {Q : Exit → Act → World → Prop}
    (hg : o.guard = none) (m x : Operand) (t : TypeId) (hop : o.op = Op.lookup t m x true)
    (k e : TypeId) (K : Keyed P k) (ht : P.underlying t = some (.map k e)) (R : Value → Option (DataW H × List MemPlace)) {z : Value} (hz : (zeroValue e).run P w = .ok z w) {zd : DataW H} {zp : List MemPlace} (hzd : R z = some (zd, zp)) (b n : Nat) (D : DataW H)
    (hm : a.eval m = .map (some b)) (hown : w.ownsMap P k R b n D) (key : Value) (kl : Lit) (hx : a.eval x = key) (hkey : keyOf P k key = some kl) (bb : Bool) (hb : has D kl = bb)
    (hK : ∀ v ps, R v = some (D.atKey kl zd, ps) → wpList P ops Q rest (a.put o.dst (.tuple #[v, .bool bb])) w) :
    wpList P ops Q (o :: rest) a w := by
  refine wpList_plain hg fun K' hK' => ?_
  obtain ⟨v, ps, hrun, hat⟩ := hown.look_ok K ht hz hzd hkey
  rw [hb] at hrun
  unfold Oper.wp
  simp [execOp, hop, hm, hx, hrun, Result.andThen]
  exact hK' _ _ (hK v ps hat)
end Go.Proofs.Ytcageojoafkojaa.Ir
