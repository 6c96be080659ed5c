/- A policy that is put together, thing by thing: what its blocks hold on the way. -/
import Derived.Test.YtonpakndocgndaaGreatDoorTyped
namespace Go.Proofs.YtonpakndocgndaaGreatDoor
open Go.RowKit
/-- The types of a policy's parts: the policy, its rules, conditions, paths, ports; the cells of a condition, a path, a port; the cells ahead. -/
structure Kd where
  tP : TypeId
  tR : TypeId
  tC : TypeId
  tB : TypeId
  tQ : TypeId
  fC : CondM → List Value
  fB : Bs × Nat → List Value
  fQ : Nat × Nat → List Value
  hC : ∀ x, (fC x).length = 4
  hB : ∀ x, (fB x).length = 2
  hQ : ∀ x, (fQ x).length = 2
  n1 : tC ≠ tR
  n2 : tB ≠ tR
  n3 : tQ ≠ tR
  n4 : tP ≠ tR
  n5 : tC ≠ tB
  n6 : tR ≠ tB
  n7 : tQ ≠ tB
  n8 : tP ≠ tB
  n9 : tC ≠ tQ
  n10 : tR ≠ tQ
  n11 : tB ≠ tQ
  n12 : tP ≠ tQ
  n13 : tR ≠ tP
  n14 : tC ≠ tP
  n15 : tB ≠ tP
  n16 : tQ ≠ tP
structure RB (K : Kd) (w wr : World) (B B1 B2 : Nat) (z1 : List Value) (v0 v1 v2 v3 v4 v5 : Value) (rs : List RuleV) (pt : List (Bs × Nat)) (po : List (Nat × Nat)) : Prop where
  out : Bk wr B2 K.tP [v0, v1, v2, v3, v4, v5]
  res : Bk wr B1 K.tP z1
  r : wr.ownsRow B K.tR 3 v2 rs.length (rs.flatMap RuleV.cells)
  c : ∀ x ∈ rs, TRd wr K.tC 4 x.m.conds.length x.A (x.m.conds.flatMap K.fC)
  p : wr.ownsRow B K.tB 2 v4 pt.length (pt.flatMap K.fB)
  q : wr.ownsRow B K.tQ 2 v5 po.length (po.flatMap K.fQ)
  bel : Below w.heap.size w wr
  hB : w.heap.size ≤ B ∧ B ≤ wr.heap.size
  hB2 : w.heap.size ≤ B2
  hB1 : w.heap.size ≤ B1 ∧ B1 ≠ B2
section
variable {K : Kd} {w wr w' : World} {B B1 B2 : Nat} {z1 : List Value} {v0 v1 v2 v3 v4 v5 v' : Value} {rs : List RuleV} {pt : List (Bs × Nat)} {po : List (Nat × Nat)}
theorem RB.kept (h : RB K w wr B B1 B2 z1 v0 v1 v2 v3 v4 v5 rs pt po) (hb : Below wr.heap.size wr w') : RB K w w' B B1 B2 z1 v0 v1 v2 v3 v4 v5 rs pt po :=
  ⟨h.out.kept hb, h.res.kept hb, own_below h.r hb, fun x hx => (h.c x hx).below hb, own_below h.p hb, own_below h.q hb, h.bel.trans (hb.mono h.bel.size), ⟨h.hB.1, Nat.le_trans h.hB.2 hb.size⟩, h.hB2, h.hB1⟩
/-- A store into the policy itself: a row's new value. -/
theorem bel_app (h : Below w.heap.size w wr) (hg : wr.grownBy w' v2.ownBlock) (hv : ∀ g, v2.ownBlock = some g → B ≤ g) (hB : w.heap.size ≤ B) (hB2 : w.heap.size ≤ B2) (j : Nat) (v' : Value) : Below w.heap.size w (w'.setCell ⟨B2, j, none⟩ v') :=
  (h.grown hg h.size (fun g hg2 => Nat.le_trans hB (hv g hg2))).grown (only_set w' B2 j v') (Nat.le_trans h.size hg.size) (fun g hg2 => by cases hg2; exact hB2)
theorem RB.addRule (h : RB K w wr B B1 B2 z1 v0 v1 v2 v3 v4 v5 rs pt po) (x : RuleV) (hx : TRd wr K.tC 4 x.m.conds.length x.A (x.m.conds.flatMap K.fC)) (hown : w'.ownsRow B K.tR 3 v' (rs.length + 1) (rs.flatMap RuleV.cells ++ x.cells)) (hg : wr.grownBy w' v2.ownBlock) :
    RB K w (w'.setCell ⟨B2, 2, none⟩ v') B B1 B2 z1 v0 v1 v' v3 v4 v5 (rs ++ [x]) pt po := by
  obtain ⟨_, _, _, _, _, hty, _⟩ := own_typed h.r
  obtain ⟨_, _, _, _, _, hty', _⟩ := own_typed hown
  have hl := fun g hg2 => (h.r.lt g hg2).1
  have ho := h.out.appended hg hty K.n4
  have hs := only_set w' B2 2 v'
  have hcT := ho.tyb
  refine ⟨ho.set 2 v', (h.res.appended hg hty K.n4).grown hs (fun e => h.hB1.2 (Option.some.inj e)), ?_, fun y hy => ?_, ?_, ?_, bel_app h.bel hg hl h.hB.1 h.hB2 2 v', ⟨h.hB.1, Nat.le_trans h.hB.2 (Nat.le_trans hg.size hs.size)⟩, h.hB2, h.hB1⟩
  · rw [List.length_append, List.flatMap_append]
    simp only [List.length_singleton, List.flatMap_cons, List.flatMap_nil, List.append_nil]
    exact own_keep hown hs (fun b hb => (hty' b hb).ne hcT K.n13)
  · rcases List.mem_append.1 hy with hy | hy
    · have := (h.c y hy).appended hg hty K.n1
      exact this.grown hs (this.off hcT K.n14)
    · simp only [List.mem_singleton] at hy
      subst hy
      have := hx.appended hg hty K.n1
      exact this.grown hs (this.off hcT K.n14)
  · have := own_appended h.p hg hty K.n2
    obtain ⟨_, _, _, _, _, ht, _⟩ := own_typed this
    exact own_keep this hs (fun b hb => (ht b hb).ne hcT K.n15)
  · have := own_appended h.q hg hty K.n3
    obtain ⟨_, _, _, _, _, ht, _⟩ := own_typed this
    exact own_keep this hs (fun b hb => (ht b hb).ne hcT K.n16)
theorem RB.addPath (h : RB K w wr B B1 B2 z1 v0 v1 v2 v3 v4 v5 rs pt po) (x : Bs × Nat) (hown : w'.ownsRow B K.tB 2 v' (pt.length + 1) (pt.flatMap K.fB ++ K.fB x)) (hg : wr.grownBy w' v4.ownBlock) :
    RB K w (w'.setCell ⟨B2, 4, none⟩ v') B B1 B2 z1 v0 v1 v2 v3 v' v5 rs (pt ++ [x]) po := by
  obtain ⟨_, _, _, _, _, hty, _⟩ := own_typed h.p
  obtain ⟨_, _, _, _, _, hty', _⟩ := own_typed hown
  have hl := fun g hg2 => (h.p.lt g hg2).1
  have ho := h.out.appended hg hty K.n8
  have hs := only_set w' B2 4 v'
  have hcT := ho.tyb
  refine ⟨ho.set 4 v', (h.res.appended hg hty K.n8).grown hs (fun e => h.hB1.2 (Option.some.inj e)), ?_, fun y hy => ?_, ?_, ?_, bel_app h.bel hg hl h.hB.1 h.hB2 4 v', ⟨h.hB.1, Nat.le_trans h.hB.2 (Nat.le_trans hg.size hs.size)⟩, h.hB2, h.hB1⟩
  · have := own_appended h.r hg hty K.n6
    obtain ⟨_, _, _, _, _, ht, _⟩ := own_typed this
    exact own_keep this hs (fun b hb => (ht b hb).ne hcT K.n13)
  · have := (h.c y hy).appended hg hty K.n5
    exact this.grown hs (this.off hcT K.n14)
  · rw [List.length_append, List.flatMap_append]
    simp only [List.length_singleton, List.flatMap_cons, List.flatMap_nil, List.append_nil]
    exact own_keep hown hs (fun b hb => (hty' b hb).ne hcT K.n15)
  · have := own_appended h.q hg hty K.n7
    obtain ⟨_, _, _, _, _, ht, _⟩ := own_typed this
    exact own_keep this hs (fun b hb => (ht b hb).ne hcT K.n16)
theorem RB.addPort (h : RB K w wr B B1 B2 z1 v0 v1 v2 v3 v4 v5 rs pt po) (x : Nat × Nat) (hown : w'.ownsRow B K.tQ 2 v' (po.length + 1) (po.flatMap K.fQ ++ K.fQ x)) (hg : wr.grownBy w' v5.ownBlock) :
    RB K w (w'.setCell ⟨B2, 5, none⟩ v') B B1 B2 z1 v0 v1 v2 v3 v4 v' rs pt (po ++ [x]) := by
  obtain ⟨_, _, _, _, _, hty, _⟩ := own_typed h.q
  obtain ⟨_, _, _, _, _, hty', _⟩ := own_typed hown
  have hl := fun g hg2 => (h.q.lt g hg2).1
  have ho := h.out.appended hg hty K.n12
  have hs := only_set w' B2 5 v'
  have hcT := ho.tyb
  refine ⟨ho.set 5 v', (h.res.appended hg hty K.n12).grown hs (fun e => h.hB1.2 (Option.some.inj e)), ?_, fun y hy => ?_, ?_, ?_, bel_app h.bel hg hl h.hB.1 h.hB2 5 v', ⟨h.hB.1, Nat.le_trans h.hB.2 (Nat.le_trans hg.size hs.size)⟩, h.hB2, h.hB1⟩
  · have := own_appended h.r hg hty K.n10
    obtain ⟨_, _, _, _, _, ht, _⟩ := own_typed this
    exact own_keep this hs (fun b hb => (ht b hb).ne hcT K.n13)
  · have := (h.c y hy).appended hg hty K.n9
    exact this.grown hs (this.off hcT K.n14)
  · have := own_appended h.p hg hty K.n11
    obtain ⟨_, _, _, _, _, ht, _⟩ := own_typed this
    exact own_keep this hs (fun b hb => (ht b hb).ne hcT K.n15)
  · rw [List.length_append, List.flatMap_append]
    simp only [List.length_singleton, List.flatMap_cons, List.flatMap_nil, List.append_nil]
    exact own_keep hown hs (fun b hb => (hty' b hb).ne hcT K.n16)
end
def kR : Kd := ⟨60, 109, 65, 113, 116, CondM.rcells, pathR, portR, fun _ => rfl, fun _ => rfl, fun _ => rfl, by decide, by decide, by decide, by decide, by decide, by decide, by decide, by decide, by decide, by decide, by decide, by decide, by decide, by decide, by decide, by decide⟩
def kP : Kd := ⟨30, 47, 39, 49, 51, CondM.cells, pathC, portC, fun _ => rfl, fun _ => rfl, fun _ => rfl, by decide, by decide, by decide, by decide, by decide, by decide, by decide, by decide, by decide, by decide, by decide, by decide, by decide, by decide, by decide, by decide⟩
/-- A rule that is being put together: its conditions' row, in a block of its own behind a place. -/
structure XB (K : Kd) (ws wx : World) (xb : Nat) (a0 a1 cv : Value) (l : List CondM) : Prop where
  x : Bk wx xb K.tR [a0, a1, cv]
  own : wx.ownsRow ws.heap.size K.tC 4 cv l.length (l.flatMap K.fC)
  grow : ws.grownBy wx (some xb)
  lt : xb < ws.heap.size
section
variable {K : Kd} {ws wx w' : World} {xb : Nat} {a0 a1 cv v' : Value} {l : List CondM}
theorem XB.kept (h : XB K ws wx xb a0 a1 cv l) (hb : Below wx.heap.size wx w') : XB K ws w' xb a0 a1 cv l :=
  ⟨h.x.kept hb, own_below h.own hb, grown_trans h.grow ⟨hb.os, hb.tape, hb.output, hb.size, fun i hi _ => hb.block i hi⟩ (fun k (hk : none = some k) => by cases hk), h.lt⟩
theorem XB.add (h : XB K ws wx xb a0 a1 cv l) (c : CondM) (hown : w'.ownsRow ws.heap.size K.tC 4 v' (l.length + 1) (l.flatMap K.fC ++ K.fC c)) (hg : wx.grownBy w' cv.ownBlock) : XB K ws (w'.setCell ⟨xb, 2, none⟩ v') xb a0 a1 v' (l ++ [c]) := by
  obtain ⟨_, _, _, _, _, hty, _⟩ := own_typed h.own
  obtain ⟨_, _, _, _, _, hty', _⟩ := own_typed hown
  have ho := h.x.appended hg hty K.n1.symm
  have hs := only_set w' xb 2 v'
  refine ⟨ho.set 2 v', ?_, ?_, h.lt⟩
  · rw [List.length_append, List.flatMap_append]
    simp only [List.length_singleton, List.flatMap_cons, List.flatMap_nil, List.append_nil]
    exact own_keep hown hs (fun b hb => (hty' b hb).ne ho.tyb K.n1)
  · exact grown_trans (grown_trans h.grow hg (fun k hk => .inr (h.own.lt k hk).1)) hs (fun k hk => .inl hk)
theorem XB.bel {w0 : World} (h : XB K ws wx xb a0 a1 cv l) (hw : Below w0.heap.size w0 ws) (hx : w0.heap.size ≤ xb) : Below w0.heap.size w0 wx := hw.grown h.grow hw.size (fun g hg => by cases hg; exact hx)
end
end Go.Proofs.YtonpakndocgndaaGreatDoor
