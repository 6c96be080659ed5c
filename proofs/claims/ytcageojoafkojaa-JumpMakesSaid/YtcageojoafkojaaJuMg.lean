/- Parts whose ways go forward are made to code that may be loaded; a run of it: lists alone. -/
import Derived.Test.YtcageojoafkojaaJuMt
import Derived.Test.YtcageojoafkojaaJuSz
namespace Go.Proofs.Ytcageojoafkojaa.Ju
def wtP (p : PtM) : Nat := if p.kd = 3 then 3 else if p.kd = 2 ∨ p.kd = 4 then 1 else 0
def wtL : List PtM → Nat
  | [] => 0
  | p :: t => wtP p + wtL t
/-- Parts of the four kinds, their instructions fine. -/
structure Fin1 (p : PtM) : Prop where
  smp : Smp p
  kd : p.kd = 1 ∨ p.kd = 2 ∨ p.kd = 3 ∨ p.kd = 4
  rg : p.kd = 2 → rangeB p.i = true
/-- The last part ends. -/
def LastR : List PtM → Prop
  | [] => False
  | p :: t => (t = [] ∧ p.kd = 2 ∧ p.i.c % 8 = 6) ∨ LastR t
theorem last_ne {l : List PtM} (h : LastR l) : l ≠ [] := by
  cases l with
  | nil => exact h.elim
  | cons p t => simp
/-- What is known of the code. -/
structure Cod (l : List PtM) (r : Nat × CdM) : Prop where
  ok : r.1 = 0
  nm : ∀ n, HasN n l → ∃ k, lk n r.2.bh = some k
  no : ∀ n, ¬ HasN n l → lk n r.2.bh = none
  at_ : ∀ n k, lk n r.2.bh = some k → 1 ≤ k ∧ k ≤ r.2.ins.length
  len : r.2.ins.length ≤ wtL l
  pos : 1 ≤ r.2.ins.length
  all : AllA r.2.ins
  smp : ∀ i ∈ r.2.ins, i.c = 32 ∨ i.c = 84 ∨ i.c = 6 ∨ i.c = 5 ∨ i.c = 21 ∨ i.c = 37 ∨ i.c = 53 ∨ i.c = 69
  ends : ∀ i, r.2.ins[r.2.ins.length - 1]? = some i → i.c % 8 = 6
theorem last_app {x y : List Ins} (hy : 1 ≤ y.length) (h : ∀ i, y[y.length - 1]? = some i → i.c % 8 = 6) : ∀ i, (x ++ y)[(x ++ y).length - 1]? = some i → i.c % 8 = 6 := fun i hi => by
  rw [List.length_append, List.getElem?_append_right (by omega), show x.length + y.length - 1 - x.length = y.length - 1 from by omega] at hi
  exact h i hi
theorem alone_if4 {c t f k n : Nat} (hc : c = 21 ∨ c = 37 ∨ c = 53 ∨ c = 69) (ht : t < n) (hf : f < n) : alone ⟨c, t, f, k⟩ n = 0 := by
  have e : jumpB ⟨c, t, f, k⟩ n = true := by
    rcases hc with rfl | rfl | rfl | rfl <;> simp [jumpB, rel, ht, hf]
  unfold alone
  rw [e]
  rcases hc with rfl | rfl | rfl | rfl <;> rfl
theorem alone_plain {i : Ins} {n : Nat} (hc : i.c = 32 ∨ i.c = 84 ∨ i.c = 6) (hr : rangeB i = true) (_ : 0 < n ∨ i.c = 6) : alone i n = 0 := by
  have e : jumpB i n = true := by
    unfold jumpB
    rcases hc with h | h | h <;> rw [h] <;> rfl
  have k : knownB i.c = true := by rcases hc with h | h | h <;> rw [h] <;> rfl
  unfold alone
  rw [e, hr, k]; rfl
theorem all_app : ∀ {x y : List Ins}, AllA y → (∀ (a : Nat) (i : Ins), x[a]? = some i → alone i (x.length - a - 1 + y.length) = 0) → AllA (x ++ y)
  | [], _, h, _ => h
  | i :: x, y, h, hx => by
    refine ⟨?_, all_app h fun a j hj => ?_⟩
    · have := hx 0 i rfl
      show alone i (x ++ y).length = 0
      rw [List.length_append]
      rw [List.length_cons] at this
      rw [show x.length + y.length = x.length + 1 - 0 - 1 + y.length from by omega]; exact this
    · have := hx (a + 1) j (by rw [List.getElem?_cons_succ]; exact hj)
      rw [List.length_cons] at this
      rw [show x.length - a - 1 + y.length = x.length + 1 - (a + 1) - 1 + y.length from by omega]; exact this
theorem step_of {p : PtM} {r : Nat × CdM} (h0 : r.1 = 0) (h2 : (layF p r.2).2.ins.length ≤ 4096) : stepF p r = layF p r.2 := by
  rw [show r = (0, r.2) from Prod.ext h0 rfl]
  exact step_eq h2
/-- A part's code put ahead. -/
theorem Cod.ahead {p : PtM} {t : List PtM} {r : Nat × CdM} (h : Cod t r) (x : List Ins) (hk : p.kd ≠ 1) (hx : x.length ≤ wtP p) (hw : wtL (p :: t) ≤ 4096) (hl : layF p r.2 = (0, ⟨x ++ r.2.ins, r.2.bh⟩))
    (ha : ∀ (a : Nat) (i : Ins), x[a]? = some i → alone i (x.length - a - 1 + r.2.ins.length) = 0) (hs : ∀ i ∈ x, i.c = 32 ∨ i.c = 84 ∨ i.c = 6 ∨ i.c = 5 ∨ i.c = 21 ∨ i.c = 37 ∨ i.c = 53 ∨ i.c = 69) : Cod (p :: t) (stepF p r) := by
  have hlen := h.len
  have hwt : wtL (p :: t) = wtP p + wtL t := rfl
  rw [step_of h.ok (by rw [hl]; simp only [List.length_append]; omega), hl]
  have hh : ∀ n, HasN n (p :: t) ↔ HasN n t := fun n => by
    rw [has_cons]
    exact ⟨fun a => by rcases a with ⟨a, _⟩ | a; exact absurd a hk; exact a, Or.inr⟩
  exact ⟨rfl, fun n a => h.nm n ((hh n).1 a), fun n a => h.no n (fun b => a ((hh n).2 b)), fun n k a => by have := h.at_ n k a; simp only [List.length_append]; omega,
    by simp only [List.length_append]; omega, by have := h.pos; simp only [List.length_append]; omega, all_app h.all ha,
    fun i hi => by rcases List.mem_append.1 hi with b | b; exact hs i b; exact h.smp i b, last_app h.pos h.ends⟩
theorem one_at {i : Ins} {Q : Nat → Ins → Prop} (h : Q 0 i) : ∀ (a : Nat) (j : Ins), [i][a]? = some j → Q a j := fun a j hj => by
  match a, hj with
  | 0, hj => simp at hj; subst hj; exact h
  | a + 1, hj => simp at hj
theorem make_cod : ∀ l : List PtM, Fwd l → (∀ p ∈ l, Fin1 p) → LastR l → wtL l ≤ 4096 → Cod l (makeF l)
  | [], _, _, h, _ => h.elim
  | p :: t, hf, hs, hl, hw => by
    have hwt : wtL (p :: t) = wtP p + wtL t := rfl
    have hp := hs p List.mem_cons_self
    rcases hl with ⟨rfl, k2, k6⟩ | hl
    · have e : layF p ⟨[], []⟩ = (0, ⟨[p.i], []⟩) := by unfold layF; rw [if_neg (by omega), if_pos k2, if_neg (by omega)]
      have em : makeF [p] = (0, ⟨[p.i], []⟩) := by
        rw [makeF_cons, show makeF [] = (0, ⟨[], []⟩) from rfl, step_eq (by rw [e]; simp), e]
      rw [em]
      have hc := hp.smp.1 k2
      have hh : ∀ n, ¬ HasN n [p] := fun n a => by rcases has_cons.1 a with ⟨a, _⟩ | a; omega; exact has_nil n a
      have hw1 : wtP p = 1 := by unfold wtP; rw [if_neg (by omega), if_pos (Or.inl k2)]
      refine ⟨rfl, fun n a => absurd a (hh n), fun n _ => rfl, fun n k a => by simp [lk] at a, by rw [hwt, hw1]; simp, by simp, ⟨alone_plain hc (hp.rg k2) (Or.inr (by omega)), trivial⟩, fun i hi => ?_, fun i hi => ?_⟩
      · rw [List.mem_singleton] at hi; subst hi; omega
      · simp at hi; subst hi; exact k6
    · have ih := make_cod t hf.1 (fun q hq => hs q (List.mem_cons_of_mem _ hq)) hl (by omega)
      rw [makeF_cons]
      obtain ⟨r, hr⟩ : ∃ r, r = makeF t := ⟨_, rfl⟩
      rw [← hr] at ih ⊢
      have hpos := ih.pos
      have hlen := ih.len
      by_cases k1 : p.kd = 1
      · have hno := hf.2.1 k1
        have e : layF p r.2 = (0, ⟨r.2.ins, (p.to, r.2.ins.length) :: r.2.bh⟩) := by unfold layF; rw [if_pos k1, ih.no _ hno]
        rw [step_of ih.ok (by rw [e]; simp only; omega), e]
        refine ⟨rfl, fun n a => ?_, fun n a => ?_, fun n k a => ?_, by simp only; omega, ih.pos, ih.all, ih.smp, ih.ends⟩
        · simp only [lk_cons]
          by_cases en : p.to = n
          · rw [if_pos en]; exact ⟨_, rfl⟩
          · rw [if_neg en]
            rcases has_cons.1 a with ⟨_, a⟩ | a
            · exact absurd a en
            · exact ih.nm n a
        · simp only [lk_cons]
          rw [if_neg (fun en => a (has_cons.2 (Or.inl ⟨k1, en⟩)))]
          exact ih.no n (fun b => a (has_cons.2 (Or.inr b)))
        · simp only [lk_cons] at a
          split at a
          · cases a; exact ⟨hpos, Nat.le_refl _⟩
          · exact ih.at_ n k a
      by_cases k2 : p.kd = 2
      · have hc := hp.smp.1 k2
        have e : layF p r.2 = (0, ⟨[p.i] ++ r.2.ins, r.2.bh⟩) := by unfold layF; rw [if_neg k1, if_pos k2, if_neg (by omega)]; rfl
        refine ih.ahead [p.i] k1 (by unfold wtP; rw [if_neg (by omega), if_pos (Or.inl k2)]; simp) hw e (one_at (Q := fun a i => alone i ([p.i].length - a - 1 + r.2.ins.length) = 0) (alone_plain hc (hp.rg k2) (Or.inl (by omega)))) (fun i hi => by rw [List.mem_singleton] at hi; subst hi; omega)
      by_cases k4 : p.kd = 4
      · obtain ⟨b, hb⟩ := ih.nm p.to (hf.2.2 p.to (Or.inr ⟨k4, rfl⟩))
        obtain ⟨b1, b2⟩ := ih.at_ _ _ hb
        have e : layF p r.2 = (0, ⟨[skipI (r.2.ins.length - b)] ++ r.2.ins, r.2.bh⟩) := by unfold layF; rw [if_neg k1, if_neg k2, if_neg (by omega), if_pos k4, hb]; rfl
        refine ih.ahead _ k1 (by unfold wtP; rw [if_neg (by omega), if_pos (Or.inr k4)]; simp) hw e (one_at (Q := fun a i => alone i ([skipI (r.2.ins.length - b)].length - a - 1 + r.2.ins.length) = 0) (alone_skip (by simp; omega))) (fun i hi => by rw [List.mem_singleton] at hi; subst hi; exact Or.inr (Or.inr (Or.inr (Or.inl rfl))))
      have k3 : p.kd = 3 := by have := hp.kd; omega
      have hc := hp.smp.2 k3
      obtain ⟨bt, hbt⟩ := ih.nm p.to (hf.2.2 p.to (Or.inl ⟨k3, Or.inl rfl⟩))
      obtain ⟨bf, hbf⟩ := ih.nm p.el (hf.2.2 p.el (Or.inl ⟨k3, Or.inr rfl⟩))
      obtain ⟨t1, t2⟩ := ih.at_ _ _ hbt
      obtain ⟨f1, f2⟩ := ih.at_ _ _ hbf
      have e : layF p r.2 = (0, ⟨cmpF r.2.ins p.i bt bf, r.2.bh⟩) := by unfold layF; rw [if_neg k1, if_neg k2, if_pos k3, if_neg (by omega), hbt, hbf]
      obtain ⟨L, hL⟩ : ∃ L, L = r.2.ins := ⟨_, rfl⟩
      have hw3 : wtP p = 3 := by unfold wtP; rw [if_pos k3]
      have h5 : ∀ k, (skipI k).c = 32 ∨ (skipI k).c = 84 ∨ (skipI k).c = 6 ∨ (skipI k).c = 5 ∨ (skipI k).c = 21 ∨ (skipI k).c = 37 ∨ (skipI k).c = 53 ∨ (skipI k).c = 69 := fun k => Or.inr (Or.inr (Or.inr (Or.inl rfl)))
      have hi4 : ∀ a b, (⟨p.i.c, a, b, p.i.k⟩ : Ins).c = 32 ∨ (⟨p.i.c, a, b, p.i.k⟩ : Ins).c = 84 ∨ (⟨p.i.c, a, b, p.i.k⟩ : Ins).c = 6 ∨ (⟨p.i.c, a, b, p.i.k⟩ : Ins).c = 5 ∨ (⟨p.i.c, a, b, p.i.k⟩ : Ins).c = 21 ∨ (⟨p.i.c, a, b, p.i.k⟩ : Ins).c = 37 ∨ (⟨p.i.c, a, b, p.i.k⟩ : Ins).c = 53 ∨ (⟨p.i.c, a, b, p.i.k⟩ : Ins).c = 69 := fun a b => by simp only; omega
      have e1 : reachF L bf = if L.length - bf ≤ 253 then (L.length - bf, L) else (0, skipI (L.length - bf) :: L) := rfl
      rw [← hL] at e t2 f2 hpos hlen
      by_cases g1 : L.length - bf ≤ 253
      · rw [if_pos g1] at e1
        have e2 : reachF L bt = if L.length - bt ≤ 253 then (L.length - bt, L) else (0, skipI (L.length - bt) :: L) := rfl
        by_cases g2 : L.length - bt ≤ 253
        · rw [if_pos g2] at e2
          have ec : cmpF L p.i bt bf = [⟨p.i.c, L.length - bt, L.length - bf, p.i.k⟩] ++ L := by unfold cmpF; rw [e1]; simp only; rw [e2]; simp
          rw [ec, hL] at e
          refine ih.ahead _ k1 (by rw [hw3]; simp) hw e (fun a i hi => ?_) (fun i hi => ?_)
          · match a, hi with
            | 0, hi => simp at hi; subst hi; exact alone_if4 hc (by simp [← hL] <;> omega) (by simp [← hL] <;> omega)
            | a + 1, hi => simp at hi
          · rw [List.mem_singleton] at hi; subst hi; exact hi4 _ _
        · rw [if_neg g2] at e2
          have ec : cmpF L p.i bt bf = [⟨p.i.c, 0, L.length - bf + 1, p.i.k⟩, skipI (L.length - bt)] ++ L := by unfold cmpF; rw [e1]; simp only; rw [e2]; simp
          rw [ec, hL] at e
          refine ih.ahead _ k1 (by rw [hw3]; simp) hw e (fun a i hi => ?_) (fun i hi => ?_)
          · match a, hi with
            | 0, hi => simp at hi; subst hi; exact alone_if4 hc (by simp [← hL] <;> omega) (by simp [← hL] <;> omega)
            | 1, hi => simp at hi; subst hi; exact alone_skip (by simp [← hL] <;> omega)
            | a + 2, hi => simp at hi
          · rcases List.mem_cons.1 hi with rfl | hi
            · exact hi4 _ _
            · rw [List.mem_singleton] at hi; subst hi; exact h5 _
      · rw [if_neg g1] at e1
        have e2 : reachF (skipI (L.length - bf) :: L) bt = if L.length + 1 - bt ≤ 253 then (L.length + 1 - bt, skipI (L.length - bf) :: L) else (0, skipI (L.length + 1 - bt) :: skipI (L.length - bf) :: L) := rfl
        by_cases g2 : L.length + 1 - bt ≤ 253
        · rw [if_pos g2] at e2
          have ec : cmpF L p.i bt bf = [⟨p.i.c, L.length + 1 - bt, 0, p.i.k⟩, skipI (L.length - bf)] ++ L := by unfold cmpF; rw [e1]; simp only; rw [e2]; simp
          rw [ec, hL] at e
          refine ih.ahead _ k1 (by rw [hw3]; simp) hw e (fun a i hi => ?_) (fun i hi => ?_)
          · match a, hi with
            | 0, hi => simp at hi; subst hi; exact alone_if4 hc (by simp [← hL] <;> omega) (by simp [← hL] <;> omega)
            | 1, hi => simp at hi; subst hi; exact alone_skip (by simp [← hL] <;> omega)
            | a + 2, hi => simp at hi
          · rcases List.mem_cons.1 hi with rfl | hi
            · exact hi4 _ _
            · rw [List.mem_singleton] at hi; subst hi; exact h5 _
        · rw [if_neg g2] at e2
          have ec : cmpF L p.i bt bf = [⟨p.i.c, 0, 1, p.i.k⟩, skipI (L.length + 1 - bt), skipI (L.length - bf)] ++ L := by unfold cmpF; rw [e1]; simp only; rw [e2]; simp
          rw [ec, hL] at e
          refine ih.ahead _ k1 (by rw [hw3]; simp) hw e (fun a i hi => ?_) (fun i hi => ?_)
          · match a, hi with
            | 0, hi => simp at hi; subst hi; exact alone_if4 hc (by simp [← hL] <;> omega) (by simp [← hL] <;> omega)
            | 1, hi => simp at hi; subst hi; exact alone_skip (by simp [← hL] <;> omega)
            | 2, hi => simp at hi; subst hi; exact alone_skip (by simp [← hL] <;> omega)
            | a + 3, hi => simp at hi
          · rcases List.mem_cons.1 hi with rfl | hi
            · exact hi4 _ _
            · rcases List.mem_cons.1 hi with rfl | hi
              · exact h5 _
              · rw [List.mem_singleton] at hi; subst hi; exact h5 _
end Go.Proofs.Ytcageojoafkojaa.Ju
