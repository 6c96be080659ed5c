/- A plan in memory, while it is put together. -/
import Derived.Test.YtgdoampokcpagaaIrR
namespace Go.Proofs.Ytgdoampokcpagaa.Ir
open Go.RowKit Go.WideElems
structure BrM where
  conds : List CondM
  act : Nat
structure BrV where
  m : BrM
  A : Option Addr
  cap : Nat
def BrV.cells (b : BrV) : List Value := [.slice b.A b.m.conds.length b.cap, .int .u32 b.m.act]
structure CaV where
  num : Nat
  brs : List BrV
  A : Option Addr
  cap : Nat
def CaV.cells (c : CaV) : List Value := [.int .u32 c.num, .slice c.A c.brs.length c.cap]
/-- Is the last branch one without conditions? -/
def fullB (l : List BrM) : Bool := match l.getLast? with | some b => b.conds.isEmpty | none => false
/-- A rule's branch behind a case's others. -/
def addF (l : List BrM) (r : RuleM) : List BrM :=
  if fullB l = true then l else match needF [] [] r.conds with | none => l | some left => l ++ [⟨left, r.act⟩]
/-- The conditions of branches, where they lie. -/
def Con (w : World) (b : BrV) : Prop := TRd w 66 4 b.m.conds.length b.A (b.m.conds.flatMap CondM.cells)
def OldB (w : World) (B : Nat) (c : CaV) : Prop := TRd w 63 2 c.brs.length c.A (c.brs.flatMap BrV.cells) ∧ (c.brs.length = 0 ∨ ∃ a, c.A = some a ∧ a.block < B)
structure PS (w0 wr : World) (cs : List CaV) (num : Nat) (lb : List BrV) (g cap : Nat) (vB : Value) (Bb pb d : Nat) : Prop where
  bel : Below w0.heap.size w0 wr
  pb0 : w0.heap.size ≤ pb
  box : Bk wr pb 43 [.slice (some ⟨g, 0, none⟩) (cs.length + 1) cap, .int .u32 d]
  row : wr.ownsRow w0.heap.size 59 2 (.slice (some ⟨g, 0, none⟩) (cs.length + 1) cap) (cs.length + 1) (cs.flatMap CaV.cells ++ [.int .u32 num, vB])
  brs : wr.ownsRow Bb 63 2 vB lb.length (lb.flatMap BrV.cells)
  hb : w0.heap.size ≤ Bb ∧ Bb ≤ wr.heap.size
  old : ∀ c ∈ cs, OldB wr Bb c
  con : ∀ c ∈ cs, ∀ b ∈ c.brs, Con wr b
  conl : ∀ b ∈ lb, Con wr b
theorem flat2 (l : List CaV) : (l.flatMap CaV.cells).length = l.length * 2 := by
  induction l with
  | nil => rfl
  | cons x t ih => rw [List.flatMap_cons, List.length_append, ih, List.length_cons]; show 2 + _ = _; omega
theorem set_last (l : List CaV) (num : Nat) (v v' : Value) : (l.flatMap CaV.cells ++ [.int .u32 num, v]).set (l.length * 2 + 1) v' = l.flatMap CaV.cells ++ [.int .u32 num, v'] := by
  rw [List.set_append_right _ _ (by rw [flat2]; omega), flat2, show l.length * 2 + 1 - l.length * 2 = 1 from by omega]; rfl
theorem or_set {w : World} {B : Nat} {e : TypeId} {z n g cap j : Nat} {xs : List Value} (h : w.ownsRow B e z (.slice (some ⟨g, 0, none⟩) n cap) n xs) (u : Value) : (w.setCell ⟨g, j, none⟩ u).ownsRow B e z (.slice (some ⟨g, 0, none⟩) n cap) n (xs.set j u) := by
  obtain ⟨h1, ⟨h2, h3⟩ | ⟨g', cap', cur, h2, h3, h4, h5, h6, h7, h8⟩⟩ := h
  · cases h2
  · cases h2
    refine ⟨by rw [List.length_set]; exact h1, Or.inr ⟨g, cap, cur.setIfInBounds j u, rfl, h3, ?_, h5, h6, by rw [Array.size_setIfInBounds]; exact h7, ?_⟩⟩
    · simp [World.setCell, Array.getElem?_modify, h4]
    · rw [Array.toList_setIfInBounds, List.take_set, h8]
theorem or_cell {w : World} {B : Nat} {e : TypeId} {z n g cap : Nat} {xs : List Value} (h : w.ownsRow B e z (.slice (some ⟨g, 0, none⟩) n cap) n xs) {j : Nat} {u : Value} (hu : xs[j]? = some u) : w.cell? ⟨g, j, none⟩ = some u ∧ w.frozen? ⟨g, j, none⟩ = false ∧ g < w.heap.size := by
  obtain ⟨h1, ⟨h2, h3⟩ | ⟨g', cap', cur, h2, h3, h4, h5, h6, h7, h8⟩⟩ := h
  · cases h2
  · cases h2
    refine ⟨?_, by simp [World.frozen?, h4], (Array.getElem?_eq_some_iff.1 h4).1⟩
    have hj : j < n * z := by rw [← h1]; exact (List.getElem?_eq_some_iff.1 hu).1
    rw [← h8, List.getElem?_take_of_lt hj] at hu
    simp [World.cell?, h4]
    rw [← Array.getElem?_toList]; exact hu
section
variable {w0 wr w' : World} {cs : List CaV} {num : Nat} {lb : List BrV} {g cap : Nat} {vB : Value} {Bb pb d : Nat}
theorem Con.below {b : BrV} (h : Con wr b) (hb : Below wr.heap.size wr w') : Con w' b := TRd.below h hb
theorem OldB.below {c : CaV} (h : OldB wr Bb c) (hb : Below wr.heap.size wr w') : OldB w' Bb c := ⟨h.1.below hb, h.2⟩
theorem PS.kept (h : PS w0 wr cs num lb g cap vB Bb pb d) (hb : Below wr.heap.size wr w') : PS w0 w' cs num lb g cap vB Bb pb d :=
  ⟨h.bel.trans (hb.mono h.bel.size), h.pb0, h.box.kept hb, own_keepN h.row hb, own_keepN h.brs hb, ⟨h.hb.1, Nat.le_trans h.hb.2 hb.size⟩, fun c hc => (h.old c hc).below hb, fun c hc b hb' => (h.con c hc b hb').below hb, fun b hb' => (h.conl b hb').below hb⟩
/-- A row's cell set: what lies elsewhere. -/
theorem PS.addBr (h : PS w0 wr cs num lb g cap vB Bb pb d) {b : BrV} {v' : Value} (hc : Con wr b) (hr : w'.ownsRow Bb 63 2 v' (lb.length + 1) (lb.flatMap BrV.cells ++ b.cells)) (hg : wr.grownBy w' vB.ownBlock) :
    PS w0 (w'.setCell ⟨g, cs.length * 2 + 1, none⟩ v') cs num (lb ++ [b]) g cap v' Bb pb d := by
  have htb : ∀ k, vB.ownBlock = some k → TyB wr k 63 := by obtain ⟨_, _, _, _, _, h1, _⟩ := own_typed h.brs; exact h1
  have htg : TyB wr g 59 := by obtain ⟨_, _, _, _, _, h1, _⟩ := own_typed h.row; exact h1 g rfl
  have hge := own_ge h.brs
  have hrow := own_appended h.row hg htb (by decide)
  have htg' : TyB w' g 59 := by obtain ⟨_, _, _, _, _, h1, _⟩ := own_typed hrow; exact h1 g rfl
  have hs := only_set w' g (cs.length * 2 + 1) v'
  have hg0 := own_ge h.row g rfl
  have hlt : ∀ k, k < Bb → k < wr.heap.size → w'.heap[k]? = wr.heap[k]? := fun k h1 h2 => hg.block k h2 (fun e => by have := hge k e.symm; omega)
  have hCon : ∀ x, Con wr x → Con (w'.setCell ⟨g, cs.length * 2 + 1, none⟩ v') x := fun x hx => by
    have h1 := TRd.appended hx hg htb (by decide)
    exact h1.grown hs (h1.off htg' (by decide))
  refine ⟨?_, h.pb0, ?_, ?_, ?_, ?_, fun c hc => ?_, fun c hc x hx => hCon x (h.con c hc x hx), fun x hx => ?_⟩
  · have h1 : Below w0.heap.size wr w' := ⟨hg.os, hg.tape, hg.output, hg.size, fun k hk => hlt k (by have := h.hb.1; omega) (by have := h.bel.size; omega)⟩
    exact (h.bel.trans h1).setCell (by exact hg0) _
  · have h1 := h.box.appended hg htb (by decide)
    exact h1.grown hs (fun e => (h1.tyb.ne htg' (by decide)) (Option.some.inj e))
  · have h1 := or_set (j := cs.length * 2 + 1) hrow v'
    rw [set_last] at h1; exact h1
  · rw [List.length_append, List.flatMap_append]
    have h2 : w'.ownsRow Bb 63 2 v' (lb.length + [b].length) (lb.flatMap BrV.cells ++ [b].flatMap BrV.cells) := by simpa using hr
    refine own_keep h2 hs fun k hk => ?_
    obtain ⟨_, _, _, _, _, h3, _⟩ := own_typed h2
    exact (h3 k hk).ne htg' (by decide)
  · refine ⟨h.hb.1, Nat.le_trans h.hb.2 (Nat.le_trans hg.size hs.size)⟩
  · obtain ⟨o1, o2⟩ := h.old c hc
    have h1 : TRd w' 63 2 c.brs.length c.A (c.brs.flatMap BrV.cells) := by
      cases hv : vB.ownBlock with
      | none => rw [hv] at hg; exact o1.grownN hg
      | some k =>
        rw [hv] at hg
        refine o1.grown hg ?_
        rcases o2 with o2 | ⟨a, o2, o3⟩
        · exact Or.inl o2
        · exact Or.inr fun b hb => by cases o2.symm.trans hb; have := hge k hv; omega
    exact ⟨h1.grown hs (h1.off htg' (by decide)), o2⟩
  · rcases List.mem_append.1 hx with hx | hx
    · exact hCon x (h.conl x hx)
    · rw [List.mem_singleton.1 hx]; exact hCon b hc
end
end Go.Proofs.Ytgdoampokcpagaa.Ir

