/- A plan in memory: a case more; the plan as lists. -/
import Derived.Test.YtcageojoafkojaaGreatK14
import Derived.Test.YtcageojoafkojaaGreatK08
import Derived.Test.YtcageojoafkojaaGreatK13
namespace Go.Proofs.YtcageojoafkojaaGreat.Ir
open Go.RowKit Go.WideElems
theorem infoCa : (Tryz.prog.info? 99).map (fun i => (i.zero, i.size, i.bytes)) = some (some (.agg #[.int .u32 0, .slice none 0 0]), 2, 32) := by kernel_rfl
structure CaM where
  num : Nat
  brs : List BrM
def CaV.m (c : CaV) : CaM := ⟨c.num, c.brs.map BrV.m⟩
/-- The cases so far, the last one told apart. -/
def stF : Option (List CaM × Nat × List BrM) → RuleM → Option (List CaM × Nat × List BrM)
  | none, r => some ([], r.num, addF [] r)
  | some (cs, num, lb), r => if r.num = num then some (cs, num, addF lb r) else some (cs ++ [⟨num, lb⟩], r.num, addF [] r)
def stE : Option (List CaM × Nat × List BrM) → List CaM
  | none => []
  | some (cs, num, lb) => cs ++ [⟨num, lb⟩]
def ofF (l : List RuleM) : List CaM := stE (l.foldl stF none)
/-- A plan in memory. -/
structure PlanR (w : World) (A : Option Addr) (cs : List CaV) : Prop where
  row : TRd w 99 2 cs.length A (cs.flatMap CaV.cells)
  brs : ∀ c ∈ cs, TRd w 140 2 c.brs.length c.A (c.brs.flatMap BrV.cells)
  con : ∀ c ∈ cs, ∀ b ∈ c.brs, Con w b
/-- No case yet. -/
structure P0 (w0 wr : World) (pb d : Nat) : Prop where
  bel : Below w0.heap.size w0 wr
  pb0 : w0.heap.size ≤ pb
  box : Bk wr pb 41 [.slice none 0 0, .int .u32 d]
theorem own_some {w : World} {B : Nat} {e : TypeId} {z n : Nat} {v : Value} {xs : List Value} (h : w.ownsRow B e z v (n + 1) xs) : ∃ g cap, v = .slice (some ⟨g, 0, none⟩) (n + 1) cap ∧ B ≤ g := by
  obtain ⟨_, ⟨_, h3⟩ | ⟨g, cap, cur, h2, h3, _⟩⟩ := h
  · omega
  · exact ⟨g, cap, h2, h3⟩
section
variable {w0 wr w' : World} {cs : List CaV} {num : Nat} {lb : List BrV} {g cap : Nat} {vB : Value} {Bb pb d : Nat}
theorem P0.kept (h : P0 w0 wr pb d) (hb : Below wr.heap.size wr w') : P0 w0 w' pb d := ⟨h.bel.trans (hb.mono h.bel.size), h.pb0, h.box.kept hb⟩
theorem P0.first (h : P0 w0 wr pb d) {x g' cap' : Nat} (hr : w'.ownsRow w0.heap.size 99 2 (.slice (some ⟨g', 0, none⟩) 1 cap') 1 [.int .u32 x, .slice none 0 0]) (hg : wr.grownBy w' none) :
    PS w0 (w'.setCell ⟨pb, 0, none⟩ (.slice (some ⟨g', 0, none⟩) 1 cap')) [] x [] g' cap' (.slice none 0 0) w'.heap.size pb d := by
  have hb : Below wr.heap.size wr w' := ⟨hg.os, hg.tape, hg.output, hg.size, fun k hk => hg.block k hk (by simp)⟩
  have hbx := h.box.kept hb
  have hs := only_set w' pb 0 (.slice (some ⟨g', 0, none⟩) 1 cap')
  have htg : TyB w' g' 99 := by obtain ⟨_, _, _, _, _, h1, _⟩ := own_typed hr; exact h1 g' rfl
  refine ⟨((h.bel.trans (hb.mono h.bel.size))).setCell h.pb0 _, h.pb0, hbx.set 0 _, own_keep hr hs (fun b hb => by cases hb; exact htg.ne hbx.tyb (by decide)), World.ownsRow_nil _ _ _ _, ⟨Nat.le_trans h.bel.size (Nat.le_trans hg.size (Nat.le_refl _)), hs.size⟩, by simp, by simp, by simp⟩
theorem PS.newCase (h : PS w0 wr cs num lb g cap vB Bb pb d) {Ab : Option Addr} {cb : Nat} (hv : vB = .slice Ab lb.length cb) {x g' cap' : Nat} (hr : w'.ownsRow w0.heap.size 99 2 (.slice (some ⟨g', 0, none⟩) (cs.length + 1 + 1) cap') (cs.length + 1 + 1) (cs.flatMap CaV.cells ++ [.int .u32 num, vB] ++ [.int .u32 x, .slice none 0 0])) (hg : wr.grownBy w' (some g)) :
    PS w0 (w'.setCell ⟨pb, 0, none⟩ (.slice (some ⟨g', 0, none⟩) (cs.length + 1 + 1) cap')) (cs ++ [⟨num, lb, Ab, cb⟩]) x [] g' cap' (.slice none 0 0) w'.heap.size pb d := by
  subst hv
  have htg : TyB wr g 99 := by obtain ⟨_, _, _, _, _, h1, _⟩ := own_typed h.row; exact h1 g rfl
  have htg' : TyB w' g' 99 := by obtain ⟨_, _, _, _, _, h1, _⟩ := own_typed hr; exact h1 g' rfl
  have hg0 := own_ge h.row g rfl
  have hbx : Bk w' pb 41 _ := h.box.grown hg (fun e => (h.box.tyb.ne htg (by decide)) (Option.some.inj e))
  have hs := only_set w' pb 0 (.slice (some ⟨g', 0, none⟩) (cs.length + 1 + 1) cap')
  have hBb := h.hb.2
  have hT : ∀ {T : TypeId} {z n : Nat} {A : Option Addr} {xs : List Value}, TRd wr T z n A xs → T ≠ 99 → T ≠ 41 → TRd (w'.setCell ⟨pb, 0, none⟩ (.slice (some ⟨g', 0, none⟩) (cs.length + 1 + 1) cap')) T z n A xs := fun ht n1 n2 => by
    have h1 := ht.grown hg (ht.off htg n1)
    exact h1.grown hs (h1.off hbx.tyb n2)
  refine ⟨?_, h.pb0, ?_, ?_, World.ownsRow_nil _ _ _ _, ⟨Nat.le_trans h.hb.1 (Nat.le_trans hBb hg.size), hs.size⟩, fun c hc => ?_, fun c hc b hb => ?_, by simp⟩
  · exact (h.bel.trans (bel_grown hg hg0 h.bel.size)).setCell h.pb0 _
  · rw [List.length_append]; exact hbx.set 0 _
  · rw [List.length_append, List.flatMap_append]
    have h1 := own_keep hr hs (fun b hb => by cases hb; exact htg'.ne hbx.tyb (by decide))
    simpa [CaV.cells] using h1
  · rcases List.mem_append.1 hc with hc | hc
    · obtain ⟨o1, o2⟩ := h.old c hc
      exact ⟨hT o1 (by decide) (by decide), o2.imp id fun ⟨a, e, hl⟩ => ⟨a, e, by have := hg.size; omega⟩⟩
    · rw [List.mem_singleton.1 hc]
      obtain ⟨A1, c1, h1, _, h2, _⟩ := own_typed h.brs
      cases h1
      refine ⟨hT h2 (by decide) (by decide), ?_⟩
      rcases h2.ty with e | ⟨a, e, ht⟩
      · exact Or.inl e
      · exact Or.inr ⟨a, e, Nat.lt_of_lt_of_le ht.lt hg.size⟩
  · rcases List.mem_append.1 hc with hc | hc
    · exact hT (h.con c hc b hb) (by decide) (by decide)
    · rw [List.mem_singleton.1 hc] at hb
      exact hT (h.conl b hb) (by decide) (by decide)
/-- The plan as it is handed back. -/
theorem PS.plan (h : PS w0 wr cs num lb g cap vB Bb pb d) : ∃ cs', cs'.map CaV.m = cs.map CaV.m ++ [⟨num, lb.map BrV.m⟩] ∧ cs'.length = cs.length + 1 ∧ PlanR wr (some ⟨g, 0, none⟩) cs' := by
  obtain ⟨Ab, cb, hv, _, h2, _⟩ := own_typed h.brs
  refine ⟨cs ++ [⟨num, lb, Ab, cb⟩], by rw [List.map_append]; rfl, by simp, ?_, fun c hc => ?_, fun c hc b hb => ?_⟩
  · obtain ⟨A1, c1, h1, _, h3, _⟩ := own_typed h.row
    cases h1
    rw [hv] at h3
    have e : (cs ++ [(⟨num, lb, Ab, cb⟩ : CaV)]).flatMap CaV.cells = cs.flatMap CaV.cells ++ [.int .u32 num, .slice Ab lb.length cb] := by rw [List.flatMap_append]; simp [CaV.cells]
    rw [e, List.length_append]; exact h3
  · rcases List.mem_append.1 hc with hc | hc
    · exact (h.old c hc).1
    · rw [List.mem_singleton.1 hc]; exact h2
  · rcases List.mem_append.1 hc with hc | hc
    · exact h.con c hc b hb
    · rw [List.mem_singleton.1 hc] at hb; exact h.conl b hb
end
end Go.Proofs.YtcageojoafkojaaGreat.Ir
namespace Go.Proofs.YtcageojoafkojaaGreat.Lo
open Go.Proofs.YtcageojoafkojaaGreat.Ju Go.Proofs.YtcageojoafkojaaGreat.Ir Go.Proofs.YtcageojoafkojaaGreat.Me
theorem lay_zero {p : PtM} {t : List PtM} {r : Nat × CdM} (ih : Cod t r) (hf : Fwd (p :: t)) (hp : Fin1 p) : (layF p r.2).1 = 0 := by
  unfold layF
  by_cases k1 : p.kd = 1
  · rw [if_pos k1, ih.no _ (hf.2.1 k1)]
  rw [if_neg k1]
  by_cases k2 : p.kd = 2
  · have hc := hp.smp.1 k2
    rw [if_pos k2, if_neg (by omega)]
  rw [if_neg k2]
  by_cases k3 : p.kd = 3
  · have hc := hp.smp.2 k3
    obtain ⟨bt, hbt⟩ := ih.nm p.tQ (hf.2.2 p.tQ (Or.inl ⟨k3, Or.inl rfl⟩))
    obtain ⟨bf, hbf⟩ := ih.nm p.el (hf.2.2 p.el (Or.inl ⟨k3, Or.inr rfl⟩))
    rw [if_pos k3, if_neg (by omega), hbt, hbf]
  rw [if_neg k3]
  have k4 : p.kd = 4 := by have := hp.kd; omega
  obtain ⟨b, hb⟩ := ih.nm p.tQ (hf.2.2 p.tQ (Or.inr ⟨k4, rfl⟩))
  rw [if_pos k4, hb]
/-- A part's code put ahead. -/
theorem ahead2 {p : PtM} {t : List PtM} {r : Nat × CdM} (h : Cod t r) (x : List Ins) (hk : p.kd ≠ 1) (hx : x.length ≤ wtP p) (hw : (x ++ r.2.ins).length ≤ 4096) (hl : layF p r.2 = (0, ⟨x ++ r.2.ins, r.2.bh⟩))
    (ha : ∀ (a : Nat) (i : Ins), x[a]? = some i → alone i (x.length - a - 1 + r.2.ins.length) = 0) (hs : ∀ i ∈ x, i.c = 32 ∨ i.c = 84 ∨ i.c = 6 ∨ i.c = 5 ∨ i.c = 21 ∨ i.c = 37 ∨ i.c = 53 ∨ i.c = 69) : Cod (p :: t) (stepF p r) := by
  have hlen := h.len
  have hwt : wtL (p :: t) = wtP p + wtL t := rfl
  rw [step_of h.ok (by rw [hl]; exact hw), hl]
  rw [List.length_append] at hw
  have hh : ∀ n, HasN n (p :: t) ↔ HasN n t := fun n => by
    rw [has_cons]
    exact ⟨fun a => by rcases a with ⟨a, _⟩ | a; exact absurd a hk; exact a, Or.inr⟩
  exact ⟨rfl, fun n a => h.nm n ((hh n).1 a), fun n a => h.no n (fun b => a ((hh n).2 b)), fun n k a => by have := h.at_ n k a; simp only [List.length_append]; omega,
    by simp only [List.length_append]; omega, by have := h.pos; simp only [List.length_append]; omega, all_app h.all ha,
    fun i hi => by rcases List.mem_append.1 hi with b | b; exact hs i b; exact h.smp i b, last_app h.pos h.ends⟩
theorem cod_step {p : PtM} {t : List PtM} {r : Nat × CdM} (ih : Cod t r) (hf : Fwd (p :: t)) (hp : Fin1 p) (h4 : (layF p r.2).2.ins.length ≤ 4096) : Cod (p :: t) (stepF p r) := by
  have hw : ∀ {x : List Ins} {c : List (Int × Nat)}, layF p r.2 = (0, ⟨x, c⟩) → x.length ≤ 4096 := fun e => by rw [e] at h4; exact h4
  have hwt : wtL (p :: t) = wtP p + wtL t := rfl
  have hpos := ih.pos
  have hlen := ih.len
  by_cases k1 : p.kd = 1
  · have hno := hf.2.1 k1
    have e : layF p r.2 = (0, ⟨r.2.ins, (p.tQ, r.2.ins.length) :: r.2.bh⟩) := by unfold layF; rw [if_pos k1, ih.no _ hno]
    rw [step_of ih.ok (by rw [e]; exact hw e), e]
    refine ⟨rfl, fun n a => ?_, fun n a => ?_, fun n k a => ?_, by rw [hwt]; simp only; omega, ih.pos, ih.all, ih.smp, ih.ends⟩
    · simp only [lk_cons]
      by_cases en : p.tQ = n
      · rw [if_pos en]; exact ⟨_, rfl⟩
      · rw [if_neg en]
        rcases has_cons.1 a with ⟨_, a⟩ | a
        · exact absurd a en
        · exact ih.nm n a
    · simp only [lk_cons]
      rw [if_neg (fun en => a (has_cons.2 (Or.inl ⟨k1, en⟩)))]
      exact ih.no n (fun b => a (has_cons.2 (Or.inr b)))
    · simp only [lk_cons] at a
      split at a
      · cases a; exact ⟨hpos, Nat.le_refl _⟩
      · exact ih.at_ n k a
  by_cases k2 : p.kd = 2
  · have hc := hp.smp.1 k2
    have e : layF p r.2 = (0, ⟨[p.i] ++ r.2.ins, r.2.bh⟩) := by unfold layF; rw [if_neg k1, if_pos k2, if_neg (by omega)]; rfl
    refine ahead2 ih [p.i] k1 (by unfold wtP; rw [if_neg (by omega), if_pos (Or.inl k2)]; simp) (hw e) e (one_at (Q := fun a i => alone i ([p.i].length - a - 1 + r.2.ins.length) = 0) (alone_plain hc (hp.rg k2) (Or.inl (by omega)))) (fun i hi => by rw [List.mem_singleton] at hi; subst hi; omega)
  by_cases k4 : p.kd = 4
  · obtain ⟨b, hb⟩ := ih.nm p.tQ (hf.2.2 p.tQ (Or.inr ⟨k4, rfl⟩))
    obtain ⟨b1, b2⟩ := ih.at_ _ _ hb
    have e : layF p r.2 = (0, ⟨[skipI (r.2.ins.length - b)] ++ r.2.ins, r.2.bh⟩) := by unfold layF; rw [if_neg k1, if_neg k2, if_neg (by omega), if_pos k4, hb]; rfl
    refine ahead2 ih _ k1 (by unfold wtP; rw [if_neg (by omega), if_pos (Or.inr k4)]; simp) (hw e) e (one_at (Q := fun a i => alone i ([skipI (r.2.ins.length - b)].length - a - 1 + r.2.ins.length) = 0) (alone_skip (by simp; omega))) (fun i hi => by rw [List.mem_singleton] at hi; subst hi; exact Or.inr (Or.inr (Or.inr (Or.inl rfl))))
  have k3 : p.kd = 3 := by have := hp.kd; omega
  have hc := hp.smp.2 k3
  obtain ⟨bt, hbt⟩ := ih.nm p.tQ (hf.2.2 p.tQ (Or.inl ⟨k3, Or.inl rfl⟩))
  obtain ⟨bf, hbf⟩ := ih.nm p.el (hf.2.2 p.el (Or.inl ⟨k3, Or.inr rfl⟩))
  obtain ⟨t1, t2⟩ := ih.at_ _ _ hbt
  obtain ⟨f1, f2⟩ := ih.at_ _ _ hbf
  have e : layF p r.2 = (0, ⟨cmpF r.2.ins p.i bt bf, r.2.bh⟩) := by unfold layF; rw [if_neg k1, if_neg k2, if_pos k3, if_neg (by omega), hbt, hbf]
  obtain ⟨L, hL⟩ : ∃ L, L = r.2.ins := ⟨_, rfl⟩
  have hw3 : wtP p = 3 := by unfold wtP; rw [if_pos k3]
  have h5 : ∀ k, (skipI k).c = 32 ∨ (skipI k).c = 84 ∨ (skipI k).c = 6 ∨ (skipI k).c = 5 ∨ (skipI k).c = 21 ∨ (skipI k).c = 37 ∨ (skipI k).c = 53 ∨ (skipI k).c = 69 := fun k => Or.inr (Or.inr (Or.inr (Or.inl rfl)))
  have hi4 : ∀ a b, (⟨p.i.c, a, b, p.i.k⟩ : Ins).c = 32 ∨ (⟨p.i.c, a, b, p.i.k⟩ : Ins).c = 84 ∨ (⟨p.i.c, a, b, p.i.k⟩ : Ins).c = 6 ∨ (⟨p.i.c, a, b, p.i.k⟩ : Ins).c = 5 ∨ (⟨p.i.c, a, b, p.i.k⟩ : Ins).c = 21 ∨ (⟨p.i.c, a, b, p.i.k⟩ : Ins).c = 37 ∨ (⟨p.i.c, a, b, p.i.k⟩ : Ins).c = 53 ∨ (⟨p.i.c, a, b, p.i.k⟩ : Ins).c = 69 := fun a b => by simp only; omega
  have e1 : reachF L bf = if L.length - bf ≤ 253 then (L.length - bf, L) else (0, skipI (L.length - bf) :: L) := rfl
  rw [← hL] at e t2 f2 hpos hlen
  by_cases g1 : L.length - bf ≤ 253
  · rw [if_pos g1] at e1
    have e2 : reachF L bt = if L.length - bt ≤ 253 then (L.length - bt, L) else (0, skipI (L.length - bt) :: L) := rfl
    by_cases g2 : L.length - bt ≤ 253
    · rw [if_pos g2] at e2
      have ec : cmpF L p.i bt bf = [⟨p.i.c, L.length - bt, L.length - bf, p.i.k⟩] ++ L := by unfold cmpF; rw [e1]; simp only; rw [e2]; simp
      rw [ec, hL] at e
      refine ahead2 ih _ k1 (by rw [hw3]; simp) (hw e) e (fun a i hi => ?_) (fun i hi => ?_)
      · match a, hi with
        | 0, hi => simp at hi; subst hi; exact alone_if4 hc (by simp [← hL] <;> omega) (by simp [← hL] <;> omega)
        | a + 1, hi => simp at hi
      · rw [List.mem_singleton] at hi; subst hi; exact hi4 _ _
    · rw [if_neg g2] at e2
      have ec : cmpF L p.i bt bf = [⟨p.i.c, 0, L.length - bf + 1, p.i.k⟩, skipI (L.length - bt)] ++ L := by unfold cmpF; rw [e1]; simp only; rw [e2]; simp
      rw [ec, hL] at e
      refine ahead2 ih _ k1 (by rw [hw3]; simp) (hw e) e (fun a i hi => ?_) (fun i hi => ?_)
      · match a, hi with
        | 0, hi => simp at hi; subst hi; exact alone_if4 hc (by simp [← hL] <;> omega) (by simp [← hL] <;> omega)
        | 1, hi => simp at hi; subst hi; exact alone_skip (by simp [← hL] <;> omega)
        | a + 2, hi => simp at hi
      · rcases List.mem_cons.1 hi with rfl | hi
        · exact hi4 _ _
        · rw [List.mem_singleton] at hi; subst hi; exact h5 _
  · rw [if_neg g1] at e1
    have e2 : reachF (skipI (L.length - bf) :: L) bt = if L.length + 1 - bt ≤ 253 then (L.length + 1 - bt, skipI (L.length - bf) :: L) else (0, skipI (L.length + 1 - bt) :: skipI (L.length - bf) :: L) := rfl
    by_cases g2 : L.length + 1 - bt ≤ 253
    · rw [if_pos g2] at e2
      have ec : cmpF L p.i bt bf = [⟨p.i.c, L.length + 1 - bt, 0, p.i.k⟩, skipI (L.length - bf)] ++ L := by unfold cmpF; rw [e1]; simp only; rw [e2]; simp
      rw [ec, hL] at e
      refine ahead2 ih _ k1 (by rw [hw3]; simp) (hw e) e (fun a i hi => ?_) (fun i hi => ?_)
      · match a, hi with
        | 0, hi => simp at hi; subst hi; exact alone_if4 hc (by simp [← hL] <;> omega) (by simp [← hL] <;> omega)
        | 1, hi => simp at hi; subst hi; exact alone_skip (by simp [← hL] <;> omega)
        | a + 2, hi => simp at hi
      · rcases List.mem_cons.1 hi with rfl | hi
        · exact hi4 _ _
        · rw [List.mem_singleton] at hi; subst hi; exact h5 _
    · rw [if_neg g2] at e2
      have ec : cmpF L p.i bt bf = [⟨p.i.c, 0, 1, p.i.k⟩, skipI (L.length + 1 - bt), skipI (L.length - bf)] ++ L := by unfold cmpF; rw [e1]; simp only; rw [e2]; simp
      rw [ec, hL] at e
      refine ahead2 ih _ k1 (by rw [hw3]; simp) (hw e) e (fun a i hi => ?_) (fun i hi => ?_)
      · match a, hi with
        | 0, hi => simp at hi; subst hi; exact alone_if4 hc (by simp [← hL] <;> omega) (by simp [← hL] <;> omega)
        | 1, hi => simp at hi; subst hi; exact alone_skip (by simp [← hL] <;> omega)
        | 2, hi => simp at hi; subst hi; exact alone_skip (by simp [← hL] <;> omega)
        | a + 3, hi => simp at hi
      · rcases List.mem_cons.1 hi with rfl | hi
        · exact hi4 _ _
        · rcases List.mem_cons.1 hi with rfl | hi
          · exact h5 _
          · rw [List.mem_singleton] at hi; subst hi; exact h5 _
theorem make_or : ∀ l : List PtM, Fwd l → (∀ p ∈ l, Fin1 p) → LastR l → Cod l (makeF l) ∨ (makeF l).1 = 205
  | [], _, _, h => h.elim
  | p :: t, hf, hs, hl => by
    rcases hl with ⟨rfl, k2, k6⟩ | hl
    · refine Or.inl (make_cod [p] hf hs (Or.inl ⟨rfl, k2, k6⟩) ?_)
      show wtP p + 0 ≤ 4096
      unfold wtP; split
      · omega
      · split <;> omega
    rw [makeF_cons]
    rcases make_or t hf.1 (fun q hq => hs q (List.mem_cons_of_mem _ hq)) hl with ih | ih
    · have hp := hs p List.mem_cons_self
      have h0 := lay_zero ih hf hp
      by_cases h4 : (layF p (makeF t).2).2.ins.length ≤ 4096
      · exact Or.inl (cod_step ih hf hp h4)
      · refine Or.inr ?_
        unfold stepF
        rw [if_neg (by rw [ih.ok]; simp), if_neg (by rw [h0]; simp), if_pos (by omega)]
    · refine Or.inr ?_
      unfold stepF
      rw [if_pos (by rw [ih]; decide)]; exact ih
/-- What is known of parts that could be made. -/
structure MadeR (l : List PtM) : Prop where
  ok : (makeF l).1 = 0
  good : Good (makeF l).2.ins
  ins : ∀ i ∈ (makeF l).2.ins, i.c = 32 ∨ i.c = 84 ∨ i.c = 6 ∨ i.c = 5 ∨ i.c = 21 ∨ i.c = 37 ∨ i.c = 53 ∨ i.c = 69
  says : ∀ W : Nat → Nat, (runN W (makeF l).2.ins).2 = valL W l 0
theorem made_or {l : List PtM} (hf : Fwd l) (hs : ∀ p ∈ l, Fin1 p) (hl : LastR l) : MadeR l ∨ (makeF l).1 = 205 := by
  rcases make_or l hf hs hl with h | h
  · have hlen := make_len l h.ok
    refine Or.inl ⟨h.ok, ⟨h.pos, hlen, all_at h.all, h.ends, fun a i hi ht => ?_⟩, h.smp, fun W => ?_⟩
    · have hs := h.smp i (List.mem_of_getElem? hi)
      unfold takes at ht
      simp only [Bool.or_eq_true, beq_iff_eq] at ht
      omega
    · rw [run_code W h.smp]
      exact (make_mean W l (fun p hp => (hs p hp).smp) h.ok).all 0
  · exact Or.inr h
theorem made_of {l : List PtM} (hf : Fwd l) (hs : ∀ p ∈ l, Fin1 p) (hl : LastR l) (hw : wtL l ≤ 4096) : MadeR l := by
  have hc := make_cod l hf hs hl hw
  refine ⟨hc.ok, cod_good hc hw, hc.smp, fun W => ?_⟩
  rw [run_code W hc.smp]
  exact (make_mean W l (fun p hp => (hs p hp).smp) hc.ok).all 0
end Go.Proofs.YtcageojoafkojaaGreat.Lo
namespace Go.Proofs.YtcageojoafkojaaGreat.Lo
open Go.Proofs.YtcageojoafkojaaGreat.Ju Go.Proofs.YtcageojoafkojaaGreat.Ir Go.Proofs.YtcageojoafkojaaGreat.Me
def mkP (m : Nat) : PtM := ⟨2, 0, 0, ⟨84, 0, 0, m⟩⟩
def ifC (c v y n : Nat) : PtM := ⟨3, (y : Int), (n : Int), ⟨c, 0, 0, v⟩⟩
section
variable {n : Int} {t : List PtM} {k c v y z : Nat}
theorem has_load : HasN n (loadP k :: t) ↔ HasN n t := by rw [has_cons]; exact ⟨fun h => h.elim (fun h => by cases h.1) id, Or.inr⟩
theorem has_mk : HasN n (mkP k :: t) ↔ HasN n t := by rw [has_cons]; exact ⟨fun h => h.elim (fun h => by cases h.1) id, Or.inr⟩
theorem has_ret : HasN n (retP k :: t) ↔ HasN n t := by rw [has_cons]; exact ⟨fun h => h.elim (fun h => by cases h.1) id, Or.inr⟩
theorem has_if : HasN n (ifC c v y z :: t) ↔ HasN n t := by rw [has_cons]; exact ⟨fun h => h.elim (fun h => by cases h.1) id, Or.inr⟩
theorem has_here : HasN n (hereP k :: t) ↔ (k : Int) = n ∨ HasN n t := by rw [has_cons]; exact ⟨fun h => h.elim (fun h => Or.inl h.2) Or.inr, fun h => h.elim (fun h => Or.inl ⟨rfl, h⟩) Or.inr⟩
theorem has_nil2 : HasN n [] ↔ False := ⟨has_nil n, False.elim⟩
theorem fwd_load : Fwd (loadP k :: t) ↔ Fwd t := ⟨fun h => h.1, fun h => ⟨h, (fun e => by cases e), (fun m e => by rcases e with ⟨e, _⟩ | ⟨e, _⟩ <;> cases e)⟩⟩
theorem fwd_mk : Fwd (mkP k :: t) ↔ Fwd t := ⟨fun h => h.1, fun h => ⟨h, (fun e => by cases e), (fun m e => by rcases e with ⟨e, _⟩ | ⟨e, _⟩ <;> cases e)⟩⟩
theorem fwd_ret : Fwd (retP k :: t) ↔ Fwd t := ⟨fun h => h.1, fun h => ⟨h, (fun e => by cases e), (fun m e => by rcases e with ⟨e, _⟩ | ⟨e, _⟩ <;> cases e)⟩⟩
theorem fwd_here : Fwd (hereP k :: t) ↔ Fwd t ∧ ¬ HasN (k : Int) t := ⟨fun h => ⟨h.1, h.2.1 rfl⟩, fun h => ⟨h.1, (fun _ => h.2), (fun m e => by rcases e with ⟨e, _⟩ | ⟨e, _⟩ <;> cases e)⟩⟩
theorem fwd_if : Fwd (ifC c v y z :: t) ↔ Fwd t ∧ HasN (y : Int) t ∧ HasN (z : Int) t := ⟨fun h => ⟨h.1, h.2.2 _ (Or.inl ⟨rfl, Or.inl rfl⟩), h.2.2 _ (Or.inl ⟨rfl, Or.inr rfl⟩)⟩, fun h => ⟨h.1, (fun e => by cases e), (fun m e => by
  rcases e with ⟨_, e | e⟩ | ⟨e, _⟩
  · rw [← e]; exact h.2.1
  · rw [← e]; exact h.2.2
  · cases e)⟩⟩
theorem aft_load : aft n (loadP k :: t) = aft n t := aft_other (fun h => by cases h.1)
theorem aft_mk : aft n (mkP k :: t) = aft n t := aft_other (fun h => by cases h.1)
theorem aft_ret : aft n (retP k :: t) = aft n t := aft_other (fun h => by cases h.1)
theorem aft_if : aft n (ifC c v y z :: t) = aft n t := aft_other (fun h => by cases h.1)
theorem aft_here : aft (k : Int) (hereP k :: t) = hereP k :: t := if_pos ⟨rfl, rfl⟩
theorem aft_past (h : (k : Int) ≠ n) : aft n (hereP k :: t) = aft n t := aft_other (fun e => h e.2)
theorem aft_skip : ∀ {e : List PtM}, ¬ HasN n e → aft n (e ++ t) = aft n t
  | [], _ => rfl
  | p :: e, h => by
    rw [List.cons_append, aft_other (fun a => h (has_cons.2 (Or.inl a)))]
    exact aft_skip (fun a => h (has_cons.2 (Or.inr a)))
variable {W : Nat → Nat} {A : Nat}
theorem val_load : valL W (loadP k :: t) A = valL W t (W k) := by rw [valL_cons]; simp [loadP]
theorem val_mk : valL W (mkP k :: t) A = valL W t (A &&& k) := by rw [valL_cons]; simp [mkP]
theorem val_ret : valL W (retP k :: t) A = k := by rw [valL_cons]; rfl
theorem val_here : valL W (hereP k :: t) A = valL W t A := by rw [valL_cons]; rfl
theorem val_if : valL W (ifC c v y z :: t) A = if holdsN (c / 16) A v = true then valL W (aft (y : Int) t) A else valL W (aft (z : Int) t) A := by
  rw [valL_cons]
  show valL W (aft (if holdsN (c / 16) A v = true then (y : Int) else (z : Int)) t) A = _
  split <;> rfl
end
/-! The parts. -/
def bitsL (a m v y n : Nat) : List PtM := [loadP a, mkP m, ifC 21 v y n]
def equalL (k a m v y n : Nat) : List PtM × Nat :=
  if m % 4294967296 = 0 then (bitsL (16 + 8 * a + 4) (m / 4294967296) (v / 4294967296) y n, k)
  else (bitsL (16 + 8 * a + 4) (m / 4294967296) (v / 4294967296) (k + 1) n ++ hereP (k + 1) :: bitsL (16 + 8 * a) (m % 4294967296) (v % 4294967296) y n, k + 1)
def setB (how l : Nat) : Prop := if how = 48 then l = 0 else l = 4294967295
instance (how l : Nat) : Decidable (setB how l) := by unfold setB; exact inferInstance
def aboveL (k a how v y n : Nat) : List PtM × Nat :=
  if setB how (v % 4294967296) then ([loadP (16 + 8 * a + 4), ifC (how + 5) (v / 4294967296) y n], k)
  else ([loadP (16 + 8 * a + 4), ifC 37 (v / 4294967296) y (k + 1), hereP (k + 1), ifC 21 (v / 4294967296) (k + 2) n, hereP (k + 2), loadP (16 + 8 * a), ifC (how + 5) (v % 4294967296) y n], k + 2)
def ask (k : Nat) (c : CondM) (y n : Nat) : List PtM × Nat :=
  if c.op = 1 then equalL k c.arg.toNat 18446744073709551615 c.val y n
  else if c.op = 2 then equalL k c.arg.toNat 18446744073709551615 c.val n y
  else if c.op = 3 then aboveL k c.arg.toNat 48 c.val n y
  else if c.op = 4 then aboveL k c.arg.toNat 32 c.val n y
  else if c.op = 5 then aboveL k c.arg.toNat 32 c.val y n
  else if c.op = 6 then aboveL k c.arg.toNat 48 c.val y n
  else if c.op = 7 then equalL k c.arg.toNat c.mask c.val y n else ([], k)
/-- Does a condition hold of no call, by its looks? -/
def nevB (c : CondM) : Bool := if c.arg < 0 ∨ 6 ≤ c.arg then true else if c.op = 7 then decide (c.val &&& c.mask ≠ c.val) else decide (c.op < 1 ∨ 7 < c.op)
def condsL (b : Nat) : Nat → List CondM → List PtM × Nat
  | k, [] => ([], k)
  | k, c :: t => ((ask (k + 1) c (k + 1) b).1 ++ hereP (k + 1) :: (condsL b (ask (k + 1) c (k + 1) b).2 t).1, (condsL b (ask (k + 1) c (k + 1) b).2 t).2)
def brL (k : Nat) (b : BrM) : List PtM × Nat :=
  if b.conds.any nevB = true then ([], k) else ((condsL (k + 1) (k + 1) b.conds).1 ++ [retP b.act, hereP (k + 1)], (condsL (k + 1) (k + 1) b.conds).2)
def brsL : Nat → List BrM → List PtM × Nat
  | k, [] => ([], k)
  | k, b :: t => ((brL k b).1 ++ (brsL (brL k b).2 t).1, (brsL (brL k b).2 t).2)
def callL (d k : Nat) (c : CaM) : List PtM × Nat := (ifC 21 c.num (k + 1) (k + 2) :: hereP (k + 1) :: ((brsL (k + 2) c.brs).1 ++ [hereP (k + 2), retP d]), (brsL (k + 2) c.brs).2)
def midN (l : List CaM) : Nat := match l[l.length / 2]? with | some c => c.num | none => 0
def searchL (d : Nat) : Nat → Nat → List CaM → List PtM × Nat
  | 0, k, _ => ([], k)
  | f + 1, k, l =>
    if l.length = 1 then (match l[0]? with | some c => callL d k c | none => ([], k))
    else (ifC 53 (midN l) (k + 1) (k + 2) :: hereP (k + 2) :: ((searchL d f (k + 2) (l.take (l.length / 2))).1 ++ hereP (k + 1) :: (searchL d f (searchL d f (k + 2) (l.take (l.length / 2))).2 (l.drop (l.length / 2))).1),
      (searchL d f (searchL d f (k + 2) (l.take (l.length / 2))).2 (l.drop (l.length / 2))).2)
def callsL (d : Nat) (l : List CaM) : List PtM := if l = [] then [retP d] else loadP 0 :: (searchL d l.length 2 l).1
def planL (d : Nat) (l : List CaM) : List PtM := bitsL 4 4294967295 3221225534 1 2 ++ hereP 2 :: retP 2147483648 :: hereP 1 :: callsL d l
/-! Names and ways. -/
/-- What is laid: names of a range alone; whose ways go forward, if those they go to stand behind. -/
structure Lay (k k' : Nat) (e : List PtM) (Q : Nat → Prop) : Prop where
  le : k ≤ k'
  nm : ∀ n : Int, HasN n e → (k : Int) < n ∧ n ≤ (k' : Int)
  fwd : ∀ t, Fwd t → (∀ n : Int, HasN n t → n ≤ (k : Int) ∨ (k' : Int) < n) → (∀ q, Q q → HasN (q : Int) t) → Fwd (e ++ t)
theorem Lay.not {k k' : Nat} {e : List PtM} {Q : Nat → Prop} (h : Lay k k' e Q) {n : Nat} (hn : n ≤ k ∨ k' < n) : ¬ HasN (n : Int) e := fun a => by have := h.nm n a; omega
theorem bits_has {a m v y n : Nat} {q : Int} {t : List PtM} : HasN q (bitsL a m v y n ++ t) ↔ HasN q t := by
  unfold bitsL; simp only [List.cons_append, List.nil_append, has_load, has_mk, has_if]
theorem bits_fwd {a m v y n : Nat} {t : List PtM} : Fwd (bitsL a m v y n ++ t) ↔ Fwd t ∧ HasN (y : Int) t ∧ HasN (n : Int) t := by
  unfold bitsL; simp only [List.cons_append, List.nil_append, fwd_load, fwd_mk, fwd_if]
theorem bits_aft {a m v y n : Nat} {q : Int} {t : List PtM} : aft q (bitsL a m v y n ++ t) = aft q t := by
  unfold bitsL; simp only [List.cons_append, List.nil_append, aft_load, aft_mk, aft_if]
theorem bits_lay (k a m v y n : Nat) : Lay k k (bitsL a m v y n) (fun q => q = y ∨ q = n) :=
  ⟨Nat.le_refl _, fun q h => by rw [← List.append_nil (bitsL a m v y n), bits_has] at h; exact absurd h (has_nil q), fun t ht _ hq => bits_fwd.2 ⟨ht, hq y (Or.inl rfl), hq n (Or.inr rfl)⟩⟩
theorem equal_lay (k a m v y n : Nat) : Lay k (equalL k a m v y n).2 (equalL k a m v y n).1 (fun q => q = y ∨ q = n) := by
  unfold equalL
  split
  · exact bits_lay k _ _ _ y n
  · refine ⟨Nat.le_succ k, fun q h => ?_, fun t ht hn hq => ?_⟩
    · rw [bits_has, has_here, ← List.append_nil (bitsL (16 + 8 * a) _ _ y n), bits_has, has_nil2] at h
      simp only [or_false] at h
      simp only
      omega
    · have hy := hq y (Or.inl rfl)
      have hz := hq n (Or.inr rfl)
      rw [List.append_assoc, List.cons_append, bits_fwd, fwd_here, bits_fwd]
      refine ⟨⟨⟨ht, hy, hz⟩, fun h => ?_⟩, has_here.2 (Or.inl rfl), has_here.2 (Or.inr (bits_has.2 hz))⟩
      rw [bits_has] at h
      have := hn _ h
      simp only at this
      omega
theorem above_lay (k a how v y n : Nat) : Lay k (aboveL k a how v y n).2 (aboveL k a how v y n).1 (fun q => q = y ∨ q = n) := by
  unfold aboveL
  split
  · refine ⟨Nat.le_refl _, fun q h => ?_, fun t ht hn hq => ?_⟩
    · simp only [has_load, has_if, has_nil2] at h
    · simp only [List.cons_append, List.nil_append, fwd_load, fwd_if]
      exact ⟨ht, hq y (Or.inl rfl), hq n (Or.inr rfl)⟩
  · refine ⟨Nat.le_add_right k 2, fun q h => ?_, fun t ht hn hq => ?_⟩
    · simp only [has_load, has_if, has_here, has_nil2, or_false] at h
      simp only
      omega
    · have hy := hq y (Or.inl rfl)
      have hz := hq n (Or.inr rfl)
      have h1 : ¬ HasN ((k + 1 : Nat) : Int) t := fun h => by have := hn _ h; simp only at this; omega
      have h2 : ¬ HasN ((k + 2 : Nat) : Int) t := fun h => by have := hn _ h; simp only at this; omega
      simp only [List.cons_append, List.nil_append, fwd_load, fwd_if, fwd_here, has_load, has_if, has_here]
      refine ⟨⟨⟨⟨⟨ht, hy, hz⟩, h2⟩, ?_, Or.inr hz⟩, fun h => h.elim (fun h => by omega) h1⟩, Or.inr (Or.inr hy), ?_⟩ <;> simp
theorem Lay.tQ {k k' : Nat} {e : List PtM} {Q R : Nat → Prop} (h : Lay k k' e Q) (hr : ∀ q, Q q → R q) : Lay k k' e R := ⟨h.le, h.nm, fun t ht hn hq => h.fwd t ht hn fun q a => hq q (hr q a)⟩
theorem ask_lay (k : Nat) (c : CondM) (y n : Nat) : Lay k (ask k c y n).2 (ask k c y n).1 (fun q => q = y ∨ q = n) := by
  have sw : ∀ {k k' : Nat} {e : List PtM}, Lay k k' e (fun q => q = n ∨ q = y) → Lay k k' e (fun q => q = y ∨ q = n) := fun h => h.tQ fun q a => a.symm
  unfold ask
  split
  · exact equal_lay ..
  split
  · exact sw (equal_lay ..)
  split
  · exact sw (above_lay ..)
  split
  · exact sw (above_lay ..)
  split
  · exact above_lay ..
  split
  · exact above_lay ..
  split
  · exact equal_lay ..
  · exact ⟨Nat.le_refl _, fun q h => absurd h (has_nil q), fun t ht _ _ => ht⟩
theorem conds_lay (b : Nat) : ∀ (l : List CondM) (k : Nat), b ≤ k → Lay k (condsL b k l).2 (condsL b k l).1 (fun q => q = b)
  | [], k, _ => ⟨Nat.le_refl _, fun q h => absurd h (has_nil q), fun t ht _ _ => ht⟩
  | c :: l, k, hb => by
    have h1 := ask_lay (k + 1) c (k + 1) b
    have h2 := conds_lay b l (ask (k + 1) c (k + 1) b).2 (by have := h1.le; omega)
    have l1 := h1.le
    have l2 := h2.le
    refine ⟨by show k ≤ (condsL b (ask (k + 1) c (k + 1) b).2 l).2; omega, fun q h => ?_, fun t ht hn hq => ?_⟩
    · show (k : Int) < q ∧ q ≤ ((condsL b (ask (k + 1) c (k + 1) b).2 l).2 : Int)
      rcases has_app.1 (show HasN q ((ask (k + 1) c (k + 1) b).1 ++ hereP (k + 1) :: (condsL b (ask (k + 1) c (k + 1) b).2 l).1) from h) with h | h
      · have := h1.nm q h; omega
      · rcases has_here.1 h with h | h
        · omega
        · have := h2.nm q h; omega
    · show Fwd (((ask (k + 1) c (k + 1) b).1 ++ hereP (k + 1) :: (condsL b (ask (k + 1) c (k + 1) b).2 l).1) ++ t)
      have hn' : ∀ n : Int, HasN n t → n ≤ (k : Int) ∨ ((condsL b (ask (k + 1) c (k + 1) b).2 l).2 : Int) < n := hn
      rw [List.append_assoc, List.cons_append]
      have g2 := h2.fwd t ht (fun n h => by have := hn' n h; omega) hq
      refine h1.fwd _ (fwd_here.2 ⟨g2, fun h => ?_⟩) (fun n h => ?_) (fun q h => ?_)
      · rcases has_app.1 h with h | h
        · have := h2.nm _ h; omega
        · have := hn' _ h; omega
      · rcases has_here.1 h with h | h
        · omega
        · rcases has_app.1 h with h | h
          · have := h2.nm _ h; omega
          · have := hn' _ h; omega
      · rcases h with rfl | rfl
        · exact has_here.2 (Or.inl rfl)
        · exact has_here.2 (Or.inr (has_app.2 (Or.inr (hq _ rfl))))
theorem br_lay (k : Nat) (b : BrM) : Lay k (brL k b).2 (brL k b).1 (fun _ => False) := by
  unfold brL
  split
  · exact ⟨Nat.le_refl _, fun q h => absurd h (has_nil q), fun t ht _ _ => ht⟩
  · have h1 := conds_lay (k + 1) b.conds (k + 1) (Nat.le_refl _)
    have l1 := h1.le
    refine ⟨by simp only; omega, fun q h => ?_, fun t ht hn hq => ?_⟩
    · simp only
      rcases has_app.1 h with h | h
      · have := h1.nm q h; omega
      · simp only [has_ret, has_here, has_nil2, or_false] at h; omega
    · simp only at hn
      rw [List.append_assoc]
      simp only [List.cons_append, List.nil_append]
      refine h1.fwd _ (fwd_ret.2 (fwd_here.2 ⟨ht, fun h => ?_⟩)) (fun n h => ?_) (fun q h => ?_)
      · have := hn _ h; omega
      · rw [has_ret, has_here] at h
        rcases h with h | h
        · omega
        · have := hn _ h; omega
      · rw [h, has_ret, has_here]; exact Or.inl rfl
theorem brs_lay : ∀ (l : List BrM) (k : Nat), Lay k (brsL k l).2 (brsL k l).1 (fun _ => False)
  | [], k => ⟨Nat.le_refl _, fun q h => absurd h (has_nil q), fun t ht _ _ => ht⟩
  | b :: l, k => by
    have h1 := br_lay k b
    have h2 := brs_lay l (brL k b).2
    have l1 := h1.le
    have l2 := h2.le
    refine ⟨by show k ≤ (brsL (brL k b).2 l).2; omega, fun q h => ?_, fun t ht hn hq => ?_⟩
    · show (k : Int) < q ∧ q ≤ ((brsL (brL k b).2 l).2 : Int)
      rcases has_app.1 (show HasN q ((brL k b).1 ++ (brsL (brL k b).2 l).1) from h) with h | h
      · have := h1.nm q h; omega
      · have := h2.nm q h; omega
    · show Fwd (((brL k b).1 ++ (brsL (brL k b).2 l).1) ++ t)
      have hn' : ∀ n : Int, HasN n t → n ≤ (k : Int) ∨ ((brsL (brL k b).2 l).2 : Int) < n := hn
      rw [List.append_assoc]
      refine h1.fwd _ (h2.fwd t ht (fun n h => by have := hn' n h; omega) (fun _ h => h.elim)) (fun n h => ?_) (fun _ h => h.elim)
      rcases has_app.1 h with h | h
      · have := h2.nm _ h; omega
      · have := hn' _ h; omega
theorem call_lay (d k : Nat) (c : CaM) : Lay k (callL d k c).2 (callL d k c).1 (fun _ => False) := by
  have h1 := brs_lay c.brs (k + 2)
  have l1 := h1.le
  unfold callL
  refine ⟨by simp only; omega, fun q h => ?_, fun t ht hn hq => ?_⟩
  · simp only
    rw [has_if, has_here, has_app, has_here, has_ret, has_nil2, or_false] at h
    rcases h with h | h | h
    · omega
    · have := h1.nm q h; omega
    · omega
  · simp only at hn
    simp only [List.cons_append, List.append_assoc, List.nil_append]
    have g : Fwd (hereP (k + 2) :: retP d :: t) := fwd_here.2 ⟨fwd_ret.2 ht, fun h => by rw [has_ret] at h; have := hn _ h; omega⟩
    have g1 := h1.fwd _ g (fun n h => by
      rw [has_here, has_ret] at h
      rcases h with h | h
      · omega
      · have := hn _ h; omega) (fun _ h => h.elim)
    refine fwd_if.2 ⟨fwd_here.2 ⟨g1, fun h => ?_⟩, has_here.2 (Or.inl rfl), has_here.2 (Or.inr (has_app.2 (Or.inr (has_here.2 (Or.inl rfl)))))⟩
    rcases has_app.1 h with h | h
    · have := h1.nm _ h; omega
    · rw [has_here, has_ret] at h
      rcases h with h | h
      · omega
      · have := hn _ h; omega
theorem search_lay (d : Nat) : ∀ (f k : Nat) (l : List CaM), Lay k (searchL d f k l).2 (searchL d f k l).1 (fun _ => False)
  | 0, k, l => ⟨Nat.le_refl _, fun q h => absurd h (has_nil q), fun t ht _ _ => ht⟩
  | f + 1, k, l => by
    unfold searchL
    split
    · cases l[0]? with
      | none => exact ⟨Nat.le_refl _, fun q h => absurd h (has_nil q), fun t ht _ _ => ht⟩
      | some c => exact call_lay d k c
    · have h1 := search_lay d f (k + 2) (l.take (l.length / 2))
      obtain ⟨e1, k1, hx⟩ : ∃ e1 k1, searchL d f (k + 2) (l.take (l.length / 2)) = (e1, k1) := ⟨_, _, rfl⟩
      rw [hx] at h1 ⊢
      simp only at h1 ⊢
      have h2 := search_lay d f k1 (l.drop (l.length / 2))
      obtain ⟨e2, k2, hy⟩ : ∃ e2 k2, searchL d f k1 (l.drop (l.length / 2)) = (e2, k2) := ⟨_, _, rfl⟩
      rw [hy] at h2 ⊢
      simp only at h2 ⊢
      have l1 := h1.le
      have l2 := h2.le
      refine ⟨by omega, fun q h => ?_, fun t ht hn hq => ?_⟩
      · rw [has_if, has_here, has_app, has_here] at h
        rcases h with h | h | h | h
        · omega
        · have := h1.nm q h; omega
        · omega
        · have := h2.nm q h; omega
      · simp only [List.cons_append, List.append_assoc]
        have g2 := h2.fwd t ht (fun n h => by have := hn n h; omega) (fun _ h => h.elim)
        have g3 : Fwd (hereP (k + 1) :: (e2 ++ t)) := fwd_here.2 ⟨g2, fun h => by
          rcases has_app.1 h with h | h
          · have := h2.nm _ h; omega
          · have := hn _ h; omega⟩
        have g1 := h1.fwd _ g3 (fun n h => by
          rcases has_here.1 h with h | h
          · omega
          · rcases has_app.1 h with h | h
            · have := h2.nm _ h; omega
            · have := hn _ h; omega) (fun _ h => h.elim)
        refine fwd_if.2 ⟨fwd_here.2 ⟨g1, fun h => ?_⟩, has_here.2 (Or.inr (has_app.2 (Or.inr (has_here.2 (Or.inl rfl))))), has_here.2 (Or.inl rfl)⟩
        rcases has_app.1 h with h | h
        · have := h1.nm _ h; omega
        · rcases has_here.1 h with h | h
          · omega
          · rcases has_app.1 h with h | h
            · have := h2.nm _ h; omega
            · have := hn _ h; omega
theorem plan_fwd (d : Nat) (l : List CaM) : Fwd (planL d l) := by
  unfold planL
  have g : Fwd (callsL d l) ∧ ∀ n : Int, HasN n (callsL d l) → 2 < n := by
    unfold callsL
    split
    · exact ⟨fwd_ret.2 trivial, fun n h => by rw [has_ret] at h; exact absurd h (has_nil n)⟩
    · have h := search_lay d l.length 2 l
      have hf := h.fwd [] trivial (fun n h => absurd h (has_nil n)) (fun _ h => h.elim)
      rw [List.append_nil] at hf
      exact ⟨fwd_load.2 hf, fun n a => by rw [has_load] at a; have := h.nm n a; omega⟩
  rw [bits_fwd, fwd_here, fwd_ret, fwd_here]
  refine ⟨⟨⟨g.1, fun h => ?_⟩, fun h => ?_⟩, has_here.2 (Or.inr (has_ret.2 (has_here.2 (Or.inl rfl)))), has_here.2 (Or.inl rfl)⟩
  · have := g.2 _ h; omega
  · rw [has_ret, has_here] at h
    rcases h with h | h
    · omega
    · have := g.2 _ h; omega
end Go.Proofs.YtcageojoafkojaaGreat.Lo
