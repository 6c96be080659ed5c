/- A plan in memory: a case more; the plan as lists. -/
import Derived.Test.YtgdoampokcpagaaIrA
namespace Go.Proofs.Ytgdoampokcpagaa.Ir
open Go.RowKit Go.WideElems
theorem infoCa : (Try.prog.info? 59).map (fun i => (i.zero, i.size, i.bytes)) = some (some (.agg #[.int .u32 0, .slice none 0 0]), 2, 32) := by kernel_rfl
structure CaM where
  num : Nat
  brs : List BrM
def CaV.m (c : CaV) : CaM := ⟨c.num, c.brs.map BrV.m⟩
/-- The cases so far, the last one told apart. -/
def stF : Option (List CaM × Nat × List BrM) → RuleM → Option (List CaM × Nat × List BrM)
  | none, r => some ([], r.num, addF [] r)
  | some (cs, num, lb), r => if r.num = num then some (cs, num, addF lb r) else some (cs ++ [⟨num, lb⟩], r.num, addF [] r)
def stE : Option (List CaM × Nat × List BrM) → List CaM
  | none => []
  | some (cs, num, lb) => cs ++ [⟨num, lb⟩]
def ofF (l : List RuleM) : List CaM := stE (l.foldl stF none)
/-- A plan in memory. -/
structure PlanR (w : World) (A : Option Addr) (cs : List CaV) : Prop where
  row : TRd w 59 2 cs.length A (cs.flatMap CaV.cells)
  brs : ∀ c ∈ cs, TRd w 63 2 c.brs.length c.A (c.brs.flatMap BrV.cells)
  con : ∀ c ∈ cs, ∀ b ∈ c.brs, Con w b
/-- No case yet. -/
structure P0 (w0 wr : World) (pb d : Nat) : Prop where
  bel : Below w0.heap.size w0 wr
  pb0 : w0.heap.size ≤ pb
  box : Bk wr pb 43 [.slice none 0 0, .int .u32 d]
theorem own_some {w : World} {B : Nat} {e : TypeId} {z n : Nat} {v : Value} {xs : List Value} (h : w.ownsRow B e z v (n + 1) xs) : ∃ g cap, v = .slice (some ⟨g, 0, none⟩) (n + 1) cap ∧ B ≤ g := by
  obtain ⟨_, ⟨_, h3⟩ | ⟨g, cap, cur, h2, h3, _⟩⟩ := h
  · omega
  · exact ⟨g, cap, h2, h3⟩
section
variable {w0 wr w' : World} {cs : List CaV} {num : Nat} {lb : List BrV} {g cap : Nat} {vB : Value} {Bb pb d : Nat}
theorem P0.kept (h : P0 w0 wr pb d) (hb : Below wr.heap.size wr w') : P0 w0 w' pb d := ⟨h.bel.trans (hb.mono h.bel.size), h.pb0, h.box.kept hb⟩
theorem P0.first (h : P0 w0 wr pb d) {x g' cap' : Nat} (hr : w'.ownsRow w0.heap.size 59 2 (.slice (some ⟨g', 0, none⟩) 1 cap') 1 [.int .u32 x, .slice none 0 0]) (hg : wr.grownBy w' none) :
    PS w0 (w'.setCell ⟨pb, 0, none⟩ (.slice (some ⟨g', 0, none⟩) 1 cap')) [] x [] g' cap' (.slice none 0 0) w'.heap.size pb d := by
  have hb : Below wr.heap.size wr w' := ⟨hg.os, hg.tape, hg.output, hg.size, fun k hk => hg.block k hk (by simp)⟩
  have hbx := h.box.kept hb
  have hs := only_set w' pb 0 (.slice (some ⟨g', 0, none⟩) 1 cap')
  have htg : TyB w' g' 59 := by obtain ⟨_, _, _, _, _, h1, _⟩ := own_typed hr; exact h1 g' rfl
  refine ⟨((h.bel.trans (hb.mono h.bel.size))).setCell h.pb0 _, h.pb0, hbx.set 0 _, own_keep hr hs (fun b hb => by cases hb; exact htg.ne hbx.tyb (by decide)), World.ownsRow_nil _ _ _ _, ⟨Nat.le_trans h.bel.size (Nat.le_trans hg.size (Nat.le_refl _)), hs.size⟩, by simp, by simp, by simp⟩
theorem PS.newCase (h : PS w0 wr cs num lb g cap vB Bb pb d) {Ab : Option Addr} {cb : Nat} (hv : vB = .slice Ab lb.length cb) {x g' cap' : Nat} (hr : w'.ownsRow w0.heap.size 59 2 (.slice (some ⟨g', 0, none⟩) (cs.length + 1 + 1) cap') (cs.length + 1 + 1) (cs.flatMap CaV.cells ++ [.int .u32 num, vB] ++ [.int .u32 x, .slice none 0 0])) (hg : wr.grownBy w' (some g)) :
    PS w0 (w'.setCell ⟨pb, 0, none⟩ (.slice (some ⟨g', 0, none⟩) (cs.length + 1 + 1) cap')) (cs ++ [⟨num, lb, Ab, cb⟩]) x [] g' cap' (.slice none 0 0) w'.heap.size pb d := by
  subst hv
  have htg : TyB wr g 59 := by obtain ⟨_, _, _, _, _, h1, _⟩ := own_typed h.row; exact h1 g rfl
  have htg' : TyB w' g' 59 := by obtain ⟨_, _, _, _, _, h1, _⟩ := own_typed hr; exact h1 g' rfl
  have hg0 := own_ge h.row g rfl
  have hbx : Bk w' pb 43 _ := h.box.grown hg (fun e => (h.box.tyb.ne htg (by decide)) (Option.some.inj e))
  have hs := only_set w' pb 0 (.slice (some ⟨g', 0, none⟩) (cs.length + 1 + 1) cap')
  have hBb := h.hb.2
  have hT : ∀ {T : TypeId} {z n : Nat} {A : Option Addr} {xs : List Value}, TRd wr T z n A xs → T ≠ 59 → T ≠ 43 → TRd (w'.setCell ⟨pb, 0, none⟩ (.slice (some ⟨g', 0, none⟩) (cs.length + 1 + 1) cap')) T z n A xs := fun ht n1 n2 => by
    have h1 := ht.grown hg (ht.off htg n1)
    exact h1.grown hs (h1.off hbx.tyb n2)
  refine ⟨?_, h.pb0, ?_, ?_, World.ownsRow_nil _ _ _ _, ⟨Nat.le_trans h.hb.1 (Nat.le_trans hBb hg.size), hs.size⟩, fun c hc => ?_, fun c hc b hb => ?_, by simp⟩
  · exact (h.bel.trans (bel_grown hg hg0 h.bel.size)).setCell h.pb0 _
  · rw [List.length_append]; exact hbx.set 0 _
  · rw [List.length_append, List.flatMap_append]
    have h1 := own_keep hr hs (fun b hb => by cases hb; exact htg'.ne hbx.tyb (by decide))
    simpa [CaV.cells] using h1
  · rcases List.mem_append.1 hc with hc | hc
    · obtain ⟨o1, o2⟩ := h.old c hc
      exact ⟨hT o1 (by decide) (by decide), o2.imp id fun ⟨a, e, hl⟩ => ⟨a, e, by have := hg.size; omega⟩⟩
    · rw [List.mem_singleton.1 hc]
      obtain ⟨A1, c1, h1, _, h2, _⟩ := own_typed h.brs
      cases h1
      refine ⟨hT h2 (by decide) (by decide), ?_⟩
      rcases h2.ty with e | ⟨a, e, ht⟩
      · exact Or.inl e
      · exact Or.inr ⟨a, e, Nat.lt_of_lt_of_le ht.lt hg.size⟩
  · rcases List.mem_append.1 hc with hc | hc
    · exact hT (h.con c hc b hb) (by decide) (by decide)
    · rw [List.mem_singleton.1 hc] at hb
      exact hT (h.conl b hb) (by decide) (by decide)
/-- The plan as it is handed back. -/
theorem PS.plan (h : PS w0 wr cs num lb g cap vB Bb pb d) : ∃ cs', cs'.map CaV.m = cs.map CaV.m ++ [⟨num, lb.map BrV.m⟩] ∧ cs'.length = cs.length + 1 ∧ PlanR wr (some ⟨g, 0, none⟩) cs' := by
  obtain ⟨Ab, cb, hv, _, h2, _⟩ := own_typed h.brs
  refine ⟨cs ++ [⟨num, lb, Ab, cb⟩], by rw [List.map_append]; rfl, by simp, ?_, fun c hc => ?_, fun c hc b hb => ?_⟩
  · obtain ⟨A1, c1, h1, _, h3, _⟩ := own_typed h.row
    cases h1
    rw [hv] at h3
    have e : (cs ++ [(⟨num, lb, Ab, cb⟩ : CaV)]).flatMap CaV.cells = cs.flatMap CaV.cells ++ [.int .u32 num, .slice Ab lb.length cb] := by rw [List.flatMap_append]; simp [CaV.cells]
    rw [e, List.length_append]; exact h3
  · rcases List.mem_append.1 hc with hc | hc
    · exact (h.old c hc).1
    · rw [List.mem_singleton.1 hc]; exact h2
  · rcases List.mem_append.1 hc with hc | hc
    · exact h.con c hc b hb
    · rw [List.mem_singleton.1 hc] at hb; exact h.conl b hb
end
end Go.Proofs.Ytgdoampokcpagaa.Ir

