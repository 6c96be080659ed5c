/- What holds while texts are parsed one behind the other; a policy told, in memory. -/
import Derived.Test.YtinofjbnfmalkaaGreatDoorTxK
import Derived.Test.YtinofjbnfmalkaaGreatDoorParY
namespace Go.Proofs.YtinofjbnfmalkaaGreatDoor.Tx
open Go.RowKit Go.WideElems Pa
set_option maxRecDepth 100000 in
theorem parserCalls_any (pb tb m : Nat) (qa : Addr) (w : World) (h : PrA w pb tb m qa) : Calls Tryz.prog 12 #[.pointer (some ⟨pb, 0, none⟩)] w fun e w' => e = .returned (.pointer (some ⟨tb, 0, none⟩)) ∧ w' = w := by
  have q0 := h.blk.cell 0 rfl
  have ql := h.blk.lt
  go_enter Tryz.func12, Tryz.ntmps12
  go_wp2_with fail
  go_ret
  exact ⟨rfl, rfl⟩
theorem PT.below {w w' : World} {B : Nat} {T : TV} (h : PT w B T) (hb : Below w.heap.size w w') : PT w' B T :=
  ⟨own_keepN h.r hb, fun x hx => (h.cc x hx).below hb, own_keepN h.p hb, own_keepN h.q hb⟩
theorem PT.tab {w w' : World} {B tb m : Nat} {T : TV} (h : PT w B T) (hT : TS w tb m) (hg : w.grownBy w' (some tb)) : PT w' B T :=
  h.other hg (TS.tyb hT) (by decide) (by decide) (by decide) (by decide)
structure Inv (w W : World) (pb tb m : Nat) (qa : Addr) (g : Nat) (xs : List Value) : Prop where
  pr : PrA W pb tb m qa
  b : Below w.heap.size w W
  row : Bk W g 9 xs
  tl : w.heap.size ≤ tb
theorem Inv.below {w W W' : World} {pb tb m g : Nat} {qa : Addr} {xs : List Value} (h : Inv w W pb tb m qa g xs) (hb : Below W.heap.size W W') : Inv w W' pb tb m qa g xs :=
  ⟨h.pr.kept hb, h.b.trans (hb.mono h.b.size), h.row.kept hb, h.tl⟩
theorem Inv.tab {w W W' : World} {pb tb m m' g : Nat} {qa : Addr} {xs : List Value} (h : Inv w W pb tb m qa g xs) (hT : TS W' tb m') (hg : W.grownBy W' (some tb)) : Inv w W' pb tb m' qa g xs :=
  ⟨h.pr.asked hg hT, below_tab h.b hg h.tl, h.row.grown hg (by intro e; exact (h.row.tyb.ne (TS.tyb h.pr.ts) (by decide)) (Option.some.inj e)), h.tl⟩
theorem Inv.off {w W W' : World} {pb tb m g k : Nat} {U : TypeId} {qa : Addr} {xs : List Value} (h : Inv w W pb tb m qa g xs) (hg : W.grownBy W' (some k)) (ht : TyB W k U) (hk : w.heap.size ≤ k) (n1 : U ≠ 148) (n2 : U ≠ 76) (n3 : U ≠ 9) : Inv w W' pb tb m qa g xs :=
  ⟨⟨h.pr.blk.grown hg (by intro e; exact (h.pr.blk.tyb.ne ht (Ne.symm n2)) (Option.some.inj e)), TS.off h.pr.ts hg ht n1⟩, h.b.grown hg h.b.size (fun q e => by cases e; exact hk), h.row.grown hg (by intro e; exact (h.row.tyb.ne ht (Ne.symm n3)) (Option.some.inj e)), h.tl⟩
structure PV where
  A1 : Option Addr
  n1 : Nat
  c1 : Nat
  A2 : Option Addr
  n2 : Nat
  c2 : Nat
  A3 : Option Addr
  n3 : Nat
  c3 : Nat
def tv (nm : Bs) (d hd : Nat) (v : PV) (rs : List RuleV) (pt : List (Bs × Nat)) (po : List (Nat × Nat)) : TV := ⟨nm, d, hd, .slice v.A1 v.n1 v.c1, .slice v.A2 v.n2 v.c2, .slice v.A3 v.n3 v.c3, rs, pt, po⟩
theorem pt_open {W : World} {B : Nat} {T : TV} (h : PT W B T) : ∃ v : PV, T = tv T.nm T.d T.hd v T.rs T.pt T.po ∧ T.rs.length = v.n1 ∧ T.pt.length = v.n2 ∧ T.po.length = v.n3 ∧ v.n2 ≤ v.c2 ∧ v.n3 ≤ v.c3 := by
  obtain ⟨A1, c1, e1, -, -, -, -⟩ := own_typed h.r
  obtain ⟨A2, c2, e2, l2, -, -, -⟩ := own_typed h.p
  obtain ⟨A3, c3, e3, l3, -, -, -⟩ := own_typed h.q
  obtain ⟨nm, d, hd, rv, bv, qv, rs, pt, po⟩ := T
  simp only at e1 e2 e3 l2 l3
  subst e1 e2 e3
  exact ⟨⟨A1, rs.length, c1, A2, pt.length, c2, A3, po.length, c3⟩, rfl, rfl, rfl, rfl, l2, l3⟩
theorem pt_reads {W : World} {B : Nat} {nm : Bs} {d hd : Nat} {v : PV} {rs : List RuleV} {pt : List (Bs × Nat)} {po : List (Nat × Nat)} (h : PT W B (tv nm d hd v rs pt po)) (h1 : rs.length = v.n1) (h2 : pt.length = v.n2) (h3 : po.length = v.n3) :
    Reads W ⟨nm, d, rs, v.A1, v.c1, hd, pt, v.A2, v.c2, po, v.A3, v.c3⟩ ∧ ∀ tb m, TS W tb m → OffP ⟨nm, d, rs, v.A1, v.c1, hd, pt, v.A2, v.c2, po, v.A3, v.c3⟩ tb := by
  obtain ⟨A1, c1, e1, -, t1, -, -⟩ := own_typed h.r
  obtain ⟨A2, c2, e2, -, t2, -, -⟩ := own_typed h.p
  obtain ⟨A3, c3, e3, -, t3, -, -⟩ := own_typed h.q
  have tc := h.cc
  simp only [tv] at e1 e2 e3 t1 t2 t3 tc
  rw [h1] at e1 t1
  rw [h2] at e2 t2
  rw [h3] at e3 t3
  obtain ⟨A1', n1', c1', A2', n2', c2', A3', n3', c3'⟩ := v
  simp only at e1 e2 e3 h1 h2 h3 t1 t2 t3 ⊢
  subst h1 h2 h3
  cases e1; cases e2; cases e3
  exact ⟨⟨t1.rd, fun r hr => (tc r hr).rd, t2.rd, t3.rd⟩, fun tb m hT => ⟨t1.off (TS.tyb hT) (by decide), fun r hr => (tc r hr).off (TS.tyb hT) (by decide), t2.off (TS.tyb hT) (by decide), t3.off (TS.tyb hT) (by decide)⟩⟩
def cellsP (nm : Bs) (d hd : Nat) (v : PV) : List Value := [.string ⟨nm.toArray⟩, .int .u32 d, .slice v.A1 v.n1 v.c1, .int .u16 hd, .slice v.A2 v.n2 v.c2, .slice v.A3 v.n3 v.c3]
structure Laid (W : World) (base B g : Nat) (nm : Bs) (d hd : Nat) (v : PV) (rs : List RuleV) (pt : List (Bs × Nat)) (po : List (Nat × Nat)) : Prop where
  bk : Bk W g 35 (cellsP nm d hd v)
  ptt : PT W B (tv nm d hd v rs pt po)
  gl : base ≤ g
  l1 : rs.length = v.n1
  l2 : pt.length = v.n2
  l3 : po.length = v.n3
  m2 : v.n2 ≤ v.c2
  m3 : v.n3 ≤ v.c3
  sz : Sz ⟨nm, d, rs.map RuleV.m, hd, pt, po⟩
section
variable {W W' : World} {base B g : Nat} {nm : Bs} {d hd : Nat} {v : PV} {rs : List RuleV} {pt : List (Bs × Nat)} {po : List (Nat × Nat)}
theorem Laid.below (h : Laid W base B g nm d hd v rs pt po) (hb : Below W.heap.size W W') : Laid W' base B g nm d hd v rs pt po := ⟨h.bk.kept hb, PT.below h.ptt hb, h.gl, h.l1, h.l2, h.l3, h.m2, h.m3, h.sz⟩
theorem Laid.tab {tb m : Nat} (h : Laid W base B g nm d hd v rs pt po) (hT : TS W tb m) (hg : W.grownBy W' (some tb)) : Laid W' base B g nm d hd v rs pt po :=
  ⟨h.bk.grown hg (by intro e; exact (h.bk.tyb.ne (TS.tyb hT) (by decide)) (Option.some.inj e)), PT.tab h.ptt hT hg, h.gl, h.l1, h.l2, h.l3, h.m2, h.m3, h.sz⟩
theorem Laid.off {k : Nat} {U : TypeId} (h : Laid W base B g nm d hd v rs pt po) (hg : W.grownBy W' (some k)) (ht : TyB W k U) (hne : g ≠ k) (n2 : U ≠ 70) (n3 : U ≠ 90) (n4 : U ≠ 72) (n5 : U ≠ 97) : Laid W' base B g nm d hd v rs pt po :=
  ⟨h.bk.grown hg (by intro e; exact hne (Option.some.inj e)), h.ptt.other hg ht n2 n3 n4 n5, h.gl, h.l1, h.l2, h.l3, h.m2, h.m3, h.sz⟩
end
theorem laid_two {w W : World} {pb tb m g B k7 k8 : Nat} {u0 u1 u2 : Value} {qa : Addr} {xs : List Value} {nm : Bs} {d hd : Nat} {v : PV} {rs : List RuleV} {pt : List (Bs × Nat)} {po : List (Nat × Nat)} {a0 a1 a2 a3 a4 a5 b0 b1 b2 : Value}
    (h : Inv w W pb tb m qa g xs) (hp : PT W B (tv nm d hd v rs pt po)) (h1 : rs.length = v.n1) (h2 : pt.length = v.n2) (h3 : po.length = v.n3) (m2 : v.n2 ≤ v.c2) (m3 : v.n3 ≤ v.c3) (hs : Sz ⟨nm, d, rs.map RuleV.m, hd, pt, po⟩)
    (h7 : Bk W k7 35 [a0, a1, a2, a3, a4, a5]) (h8 : Bk W k8 48 [b0, b1, b2]) (g7 : w.heap.size ≤ k7) (g8 : w.heap.size ≤ k8) {V : World}
    (hV : V = (((((((((W.setCell ⟨k7, 0, none⟩ (.string ⟨nm.toArray⟩)).setCell ⟨k7, 1, none⟩ (.int .u32 d)).setCell ⟨k7, 2, none⟩ (.slice v.A1 v.n1 v.c1)).setCell ⟨k7, 3, none⟩ (.int .u16 hd)).setCell ⟨k7, 4, none⟩ (.slice v.A2 v.n2 v.c2)).setCell ⟨k7, 5, none⟩ (.slice v.A3 v.n3 v.c3)).setCell ⟨k8, 0, none⟩ u0).setCell ⟨k8, 1, none⟩ u1).setCell ⟨k8, 2, none⟩ u2)) :
    Inv w V pb tb m qa g xs ∧ Laid V w.heap.size B k7 nm d hd v rs pt po ∧ Bk V k8 48 [u0, u1, u2] ∧
      ∀ (B' k' : Nat) (nm' : Bs) (d' hd' : Nat) (v' : PV) (rs' : List RuleV) (pt' : List (Bs × Nat)) (po' : List (Nat × Nat)), Laid W w.heap.size B' k' nm' d' hd' v' rs' pt' po' → k' ≠ k7 → Laid V w.heap.size B' k' nm' d' hd' v' rs' pt' po' := by
  subst hV
  have hne := h7.tyb.ne h8.tyb (by decide)
  have hb := both_a h7 h8 hne (.string ⟨nm.toArray⟩) (.int .u32 d) (.slice v.A1 v.n1 v.c1) (.int .u16 hd) (.slice v.A2 v.n2 v.c2) (.slice v.A3 v.n3 v.c3) u0 u1 u2
  have s6 := set6_grown W k7 (.string ⟨nm.toArray⟩) (.int .u32 d) (.slice v.A1 v.n1 v.c1) (.int .u16 hd) (.slice v.A2 v.n2 v.c2) (.slice v.A3 v.n3 v.c3)
  have i6 := h.off s6 h7.tyb g7 (by decide) (by decide) (by decide)
  have p6 := hp.other s6 h7.tyb (by decide) (by decide) (by decide) (by decide)
  have t8 : TyB _ k8 48 := TyB.grown h8.tyb s6 (Ne.symm hne)
  have s3 := set3_grown ((((((W.setCell ⟨k7, 0, none⟩ (.string ⟨nm.toArray⟩)).setCell ⟨k7, 1, none⟩ (.int .u32 d)).setCell ⟨k7, 2, none⟩ (.slice v.A1 v.n1 v.c1)).setCell ⟨k7, 3, none⟩ (.int .u16 hd)).setCell ⟨k7, 4, none⟩ (.slice v.A2 v.n2 v.c2)).setCell ⟨k7, 5, none⟩ (.slice v.A3 v.n3 v.c3)) k8 u0 u1 u2
  refine ⟨i6.off s3 t8 g8 (by decide) (by decide) (by decide), ⟨hb.1, p6.other s3 t8 (by decide) (by decide) (by decide) (by decide), g7, h1, h2, h3, m2, m3, hs⟩, hb.2, fun B' k' nm' d' hd' v' rs' pt' po' hl hk => ?_⟩
  have l6 := hl.off s6 h7.tyb hk (by decide) (by decide) (by decide) (by decide)
  exact l6.off s3 t8 (l6.bk.tyb.ne t8 (by decide)) (by decide) (by decide) (by decide) (by decide)
end Go.Proofs.YtinofjbnfmalkaaGreatDoor.Tx
