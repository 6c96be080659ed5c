/- A reader and what it tells, in memory: what each step keeps. -/
import Derived.Test.YtinofjbnfmalkaaGreatDoorParE
namespace Go.Proofs.YtinofjbnfmalkaaGreatDoor.Pa
open Go.RowKit Go.WideElems Go.Maps
structure TV where
  nm : Bs
  d : Nat
  hd : Nat
  rv : Value
  bv : Value
  qv : Value
  rs : List RuleV
  pt : List (Bs × Nat)
  po : List (Nat × Nat)
def TV.c (T : TV) (pb : Nat) : RC := ⟨.pointer (some ⟨pb, 0, none⟩), .string ⟨T.nm.toArray⟩, .int .u32 T.d, T.rv, .int .u16 T.hd, T.bv, T.qv⟩
def TV.m (T : TV) : PolM := ⟨T.nm, T.d, T.rs.map RuleV.m, T.hd, T.pt, T.po⟩
structure Rr (w0 : World) (b tb pb : Nat) (qa : Addr) (w : World) (m : Nat) (T : TV) (s : RS) : Prop where
  rb : Rb w b (T.c pb) s
  r : w.ownsRow (b + 1) 70 3 T.rv T.rs.length (T.rs.flatMap RuleV.cells)
  cc : ∀ x ∈ T.rs, TRd w 90 4 x.m.conds.length x.A (x.m.conds.flatMap CondM.cells)
  p : w.ownsRow (b + 1) 72 2 T.bv T.pt.length (T.pt.flatMap pathC)
  q : w.ownsRow (b + 1) 97 2 T.qv T.po.length (T.po.flatMap portC)
  ev : Ev w b
  pz : Pz w b pb tb qa
  ts : TS w tb m
  tl : tb < b
  gr : w0.grownBy w (some tb)
  hb : w0.heap.size ≤ b
  inn : In s
  sz : Sz T.m
def KT (w w' : World) : Prop := ∀ i l, Bk w i 182 l → Bk w' i 182 l
theorem KT.refl (w : World) : KT w w := fun _ _ h => h
theorem KT.trans {a b c : World} (h : KT a b) (k : KT b c) : KT a c := fun i l x => k i l (h i l x)
theorem KT.below {w w' : World} (h : Below w.heap.size w w') : KT w w' := fun _ _ x => x.kept h
theorem KT.grown {w w' : World} {g : Nat} {T : TypeId} (hg : w.grownBy w' (some g)) (ht : TyB w g T) (hn : T ≠ 182) : KT w w' := fun i l x => x.grown hg (by intro e; exact (x.tyb.ne ht (Ne.symm hn)) (Option.some.inj e))
theorem KT.app {w w' : World} {v : Value} {U : TypeId} (hg : w.grownBy w' v.ownBlock) (hv : ∀ g, v.ownBlock = some g → TyB w g U) (hn : U ≠ 182) : KT w w' := fun _ _ x => x.appended hg hv (Ne.symm hn)
theorem TState.tyb {w : World} {tb : Nat} {a : Int} (h : TState w tb a) : TyB w tb 148 := by
  rcases h with ⟨_, h⟩ | ⟨_, _, _, _, h, _⟩
  · exact ⟨_, _, h⟩
  · exact ⟨_, _, h⟩
theorem TyB.nomap {w : World} {g k n : Nat} {U : TypeId} {kt : TypeId} {enc : Value → Option (DataW Unit × List MemPlace)} {d : DataW Unit} (h : TyB w g U) (hm : w.ownsMap Tryz.prog kt enc k n d) : k ≠ g := by
  rintro rfl
  obtain ⟨es, c, hb, _⟩ := hm
  obtain ⟨cur, f, h⟩ := h
  rw [hb] at h
  cases h
theorem TState.off {w w' : World} {tb g : Nat} {a : Int} {U : TypeId} (h : TState w tb a) (hg : w.grownBy w' (some g)) (ht : TyB w g U) (hn : U ≠ 148) : TState w' tb a := by
  have hne : tb ≠ g := (TState.tyb h).ne ht (Ne.symm hn)
  rcases h with ⟨h0, h⟩ | ⟨m, n, hm, hn', hT, h1, h2⟩
  · exact .inl ⟨h0, h.kept hg (by intro e; exact hne (Option.some.inj e))⟩
  · exact .inr ⟨m, n, hm, hn', hT.kept hg (by intro e; exact hne (Option.some.inj e)), h1.kept hg (by intro e; exact TyB.nomap ht h1 (Option.some.inj e)), h2.kept hg (by intro e; exact TyB.nomap ht h2 (Option.some.inj e))⟩
theorem TS.off {w w' : World} {tb g m : Nat} {U : TypeId} (h : TS w tb m) (hg : w.grownBy w' (some g)) (ht : TyB w g U) (hn : U ≠ 148) : TS w' tb m := by
  obtain ⟨a, h1, h2, h⟩ := h
  exact ⟨a, h1, h2, TState.off h hg ht hn⟩
theorem TS.tyb {w : World} {tb m : Nat} (h : TS w tb m) : TyB w tb 148 := by obtain ⟨_, _, _, h⟩ := h; exact TState.tyb h
theorem TS.app {w w' : World} {tb m : Nat} {v : Value} {U : TypeId} (h : TS w tb m) (hg : w.grownBy w' v.ownBlock) (hv : ∀ g, v.ownBlock = some g → TyB w g U) (hn : U ≠ 148) : TS w' tb m := by
  cases hb : v.ownBlock with
  | none => rw [hb] at hg; exact h.kept ⟨hg.os, hg.tape, hg.output, hg.size, fun i hi => hg.block i hi (by simp)⟩
  | some g => rw [hb] at hg; exact TS.off h hg (hv g hb) hn
section
variable {w0 w w' : World} {b tb pb m : Nat} {qa : Addr} {T : TV} {s s' : RS}
theorem Rr.kept (h : Rr w0 b tb pb qa w m T s) (hb : Below w.heap.size w w') : Rr w0 b tb pb qa w' m T s :=
  ⟨h.rb.kept hb, own_below h.r hb, fun x hx => (h.cc x hx).below hb, own_below h.p hb, own_below h.q hb, h.ev.kept hb, h.pz.kept hb, h.ts.kept hb, h.tl, grow_below h.gr hb, h.hb, h.inn, h.sz⟩
theorem Rr.alloc (h : Rr w0 b tb pb qa w m T s) (o : Obj) : Rr w0 b tb pb qa (w.alloc o) m T s := h.kept (oneb w o)
theorem own_tyP {base : Nat} {e : TypeId} {z n : Nat} {v : Value} {xs : List Value} (h : w.ownsRow base e z v n xs) : ∀ g, v.ownBlock = some g → TyB w g e := by obtain ⟨_, _, _, _, _, ht, _⟩ := own_typed h; exact ht
theorem row_b {e : TypeId} {z n : Nat} {v : Value} {xs : List Value} (h : w.ownsRow (b + 1) e z v n xs) (hg : w.grownBy w' (some b)) : w'.ownsRow (b + 1) e z v n xs :=
  own_keep h hg (fun g hg2 => by have := (h.lt g hg2).1; omega)
theorem Rr.small (h : Rr w0 b tb pb qa w m T s) (hr : Rb w' b (T.c pb) s') (hg : w.grownBy w' (some b)) (hs : Sub s' s) : Rr w0 b tb pb qa w' m T s' ∧ KT w w' :=
  ⟨⟨hr, row_b h.r hg, fun x hx => (h.cc x hx).grown hg ((h.cc x hx).off h.rb.tyb (by decide)), row_b h.p hg, row_b h.q hg, h.ev.grown hg (Nat.le_refl _), h.pz.grown hg (Nat.le_refl _), TS.off h.ts hg h.rb.tyb (by decide), h.tl,
    grown_trans h.gr hg (fun k hk => by cases hk; exact .inr h.hb), h.hb, h.inn.sub hs, h.sz⟩, KT.grown hg h.rb.tyb (by decide)⟩
theorem Rr.put {j : Nat} {v : Value} {T' : TV} (h : Rr w0 b tb pb qa w m T s) (hc : ∀ lv x, (rdrL (T.c pb) lv x).set j v = rdrL (T'.c pb) lv x) (h1 : T'.rs = T.rs) (h2 : T'.pt = T.pt) (h3 : T'.po = T.po) (h4 : T'.rv = T.rv) (h5 : T'.bv = T.bv) (h6 : T'.qv = T.qv) (h7 : Sz T'.m) :
    Rr w0 b tb pb qa (w.setCell ⟨b, j, none⟩ v) m T' s ∧ KT w (w.setCell ⟨b, j, none⟩ v) := by
  have hg := only_set w b j v
  obtain ⟨A, cap, q1, q2, q3, q4⟩ := h.rb.blk
  have hr : Rb (w.setCell ⟨b, j, none⟩ v) b (T'.c pb) s := ⟨A, cap, by rw [← hc]; exact q1.set j v, q2, q3.grownO (.inr fun a ha => by have := (q4 a ha).1; omega) hg, fun a ha => ⟨(q4 a ha).1, TyB.grown (q4 a ha).2 hg (by have := (q4 a ha).1; omega)⟩⟩
  refine ⟨⟨hr, ?_, ?_, ?_, ?_, h.ev.grown hg (Nat.le_refl _), h.pz.grown hg (Nat.le_refl _), TS.off h.ts hg h.rb.tyb (by decide), h.tl, grown_trans h.gr hg (fun k hk => by cases hk; exact .inr h.hb), h.hb, h.inn, h7⟩, KT.grown hg h.rb.tyb (by decide)⟩
  · rw [h1, h4]; exact row_b h.r hg
  · rw [h1]; exact fun x hx => (h.cc x hx).grown hg ((h.cc x hx).off h.rb.tyb (by decide))
  · rw [h2, h5]; exact row_b h.p hg
  · rw [h3, h6]; exact row_b h.q hg
theorem Rb.app {c : RC} {v : Value} {e : TypeId} {z n : Nat} {xs : List Value} (h : Rb w b c s) (ho : w.ownsRow (b + 1) e z v n xs) (hg : w.grownBy w' v.ownBlock) : Rb w' b c s := h.appended hg (fun g hg2 => by have := (ho.lt g hg2).1; omega)
theorem Rr.addRule (h : Rr w0 b tb pb qa w m T s) (x : RuleV) {v' : Value} (hx : TRd w 90 4 x.m.conds.length x.A (x.m.conds.flatMap CondM.cells)) (hown : w'.ownsRow (b + 1) 70 3 v' (T.rs.length + 1) (T.rs.flatMap RuleV.cells ++ x.cells)) (hg : w.grownBy w' T.rv.ownBlock)
    (hz : Sz { T with rv := v', rs := T.rs ++ [x] }.m) : Rr w0 b tb pb qa (w'.setCell ⟨b, 4, none⟩ v') m { T with rv := v', rs := T.rs ++ [x] } s ∧ KT w (w'.setCell ⟨b, 4, none⟩ v') := by
  have hty := own_tyP h.r
  have hrb := h.rb.app h.r hg
  have hs := only_set w' b 4 v'
  have hl := fun g hg2 => (h.r.lt g hg2).1
  have hb1 : ∀ g, T.rv.ownBlock = some g → b ≤ g := fun g hg2 => by have := hl g hg2; omega
  obtain ⟨A, cap, q1, q2, q3, q4⟩ := hrb.blk
  refine ⟨⟨⟨A, cap, q1.set 4 v', q2, q3.grownO (.inr fun a ha => by have := (q4 a ha).1; omega) hs, fun a ha => ⟨(q4 a ha).1, TyB.grown (q4 a ha).2 hs (by have := (q4 a ha).1; omega)⟩⟩, ?_, fun y hy => ?_, ?_, ?_, (h.ev.appended hg hb1).grown hs (Nat.le_refl _), ?_, TS.off (TS.app h.ts hg hty (by decide)) hs hrb.tyb (by decide), h.tl, ?_, h.hb, h.inn, hz⟩, ?_⟩
  · have := row_b hown hs
    rw [List.length_append, List.flatMap_append]
    simpa using this
  · have hy' : TRd w 90 4 y.m.conds.length y.A (y.m.conds.flatMap CondM.cells) := by
      rcases List.mem_append.1 hy with hy | hy
      · exact h.cc y hy
      · simp only [List.mem_singleton] at hy; subst hy; exact hx
    have := hy'.appended hg hty (by decide)
    exact this.grown hs (this.off hrb.tyb (by decide))
  · exact row_b (own_appended h.p hg hty (by decide)) hs
  · exact row_b (own_appended h.q hg hty (by decide)) hs
  · have h1 := h.pz
    refine ⟨(h1.blk.appended hg hty (by decide)).grown hs (by intro e; have := Option.some.inj e; have := h1.lt; omega), h1.lt⟩
  · exact grown_trans (grown_trans h.gr hg (fun k hk => .inr (by have := hl k hk; have := h.hb; omega))) hs (fun k hk => by cases hk; exact .inr h.hb)
  · exact (KT.app hg hty (by decide)).trans (KT.grown hs hrb.tyb (by decide))
theorem Rr.addPath (h : Rr w0 b tb pb qa w m T s) (x : Bs × Nat) {v' : Value} (hown : w'.ownsRow (b + 1) 72 2 v' (T.pt.length + 1) (T.pt.flatMap pathC ++ pathC x)) (hg : w.grownBy w' T.bv.ownBlock)
    (hz : Sz { T with bv := v', pt := T.pt ++ [x] }.m) : Rr w0 b tb pb qa (w'.setCell ⟨b, 6, none⟩ v') m { T with bv := v', pt := T.pt ++ [x] } s ∧ KT w (w'.setCell ⟨b, 6, none⟩ v') := by
  have hty := own_tyP h.p
  have hrb := h.rb.app h.p hg
  have hs := only_set w' b 6 v'
  have hl := fun g hg2 => (h.p.lt g hg2).1
  have hb1 : ∀ g, T.bv.ownBlock = some g → b ≤ g := fun g hg2 => by have := hl g hg2; omega
  obtain ⟨A, cap, q1, q2, q3, q4⟩ := hrb.blk
  refine ⟨⟨⟨A, cap, q1.set 6 v', q2, q3.grownO (.inr fun a ha => by have := (q4 a ha).1; omega) hs, fun a ha => ⟨(q4 a ha).1, TyB.grown (q4 a ha).2 hs (by have := (q4 a ha).1; omega)⟩⟩, ?_, fun y hy => ?_, ?_, ?_, (h.ev.appended hg hb1).grown hs (Nat.le_refl _), ?_, TS.off (TS.app h.ts hg hty (by decide)) hs hrb.tyb (by decide), h.tl, ?_, h.hb, h.inn, hz⟩, ?_⟩
  · exact row_b (own_appended h.r hg hty (by decide)) hs
  · have := (h.cc y hy).appended hg hty (by decide)
    exact this.grown hs (this.off hrb.tyb (by decide))
  · have := row_b hown hs
    rw [List.length_append, List.flatMap_append]
    simpa using this
  · exact row_b (own_appended h.q hg hty (by decide)) hs
  · have h1 := h.pz
    refine ⟨(h1.blk.appended hg hty (by decide)).grown hs (by intro e; have := Option.some.inj e; have := h1.lt; omega), h1.lt⟩
  · exact grown_trans (grown_trans h.gr hg (fun k hk => .inr (by have := hl k hk; have := h.hb; omega))) hs (fun k hk => by cases hk; exact .inr h.hb)
  · exact (KT.app hg hty (by decide)).trans (KT.grown hs hrb.tyb (by decide))
theorem Rr.addPort (h : Rr w0 b tb pb qa w m T s) (x : Nat × Nat) {v' : Value} (hown : w'.ownsRow (b + 1) 97 2 v' (T.po.length + 1) (T.po.flatMap portC ++ portC x)) (hg : w.grownBy w' T.qv.ownBlock)
    (hz : Sz { T with qv := v', po := T.po ++ [x] }.m) : Rr w0 b tb pb qa (w'.setCell ⟨b, 7, none⟩ v') m { T with qv := v', po := T.po ++ [x] } s ∧ KT w (w'.setCell ⟨b, 7, none⟩ v') := by
  have hty := own_tyP h.q
  have hrb := h.rb.app h.q hg
  have hs := only_set w' b 7 v'
  have hl := fun g hg2 => (h.q.lt g hg2).1
  have hb1 : ∀ g, T.qv.ownBlock = some g → b ≤ g := fun g hg2 => by have := hl g hg2; omega
  obtain ⟨A, cap, q1, q2, q3, q4⟩ := hrb.blk
  refine ⟨⟨⟨A, cap, q1.set 7 v', q2, q3.grownO (.inr fun a ha => by have := (q4 a ha).1; omega) hs, fun a ha => ⟨(q4 a ha).1, TyB.grown (q4 a ha).2 hs (by have := (q4 a ha).1; omega)⟩⟩, ?_, fun y hy => ?_, ?_, ?_, (h.ev.appended hg hb1).grown hs (Nat.le_refl _), ?_, TS.off (TS.app h.ts hg hty (by decide)) hs hrb.tyb (by decide), h.tl, ?_, h.hb, h.inn, hz⟩, ?_⟩
  · exact row_b (own_appended h.r hg hty (by decide)) hs
  · have := (h.cc y hy).appended hg hty (by decide)
    exact this.grown hs (this.off hrb.tyb (by decide))
  · exact row_b (own_appended h.p hg hty (by decide)) hs
  · have := row_b hown hs
    rw [List.length_append, List.flatMap_append]
    simpa using this
  · have h1 := h.pz
    refine ⟨(h1.blk.appended hg hty (by decide)).grown hs (by intro e; have := Option.some.inj e; have := h1.lt; omega), h1.lt⟩
  · exact grown_trans (grown_trans h.gr hg (fun k hk => .inr (by have := hl k hk; have := h.hb; omega))) hs (fun k hk => by cases hk; exact .inr h.hb)
  · exact (KT.app hg hty (by decide)).trans (KT.grown hs hrb.tyb (by decide))
theorem Ev.asked {a : Int} (h : Ev w b) (hT : TState w tb a) (hg : w.grownBy w' (some tb)) : Ev w' b := by
  obtain ⟨u, h0, _⟩ := hT.c0
  have e1 : 1 ≠ tb := by
    intro e
    have := h.sg 0 (by omega)
    rw [e, h0] at this
    cases this
  have e2 : 0 ≠ tb := by
    intro e
    have := h.nm 0 (by omega)
    rw [← e] at h0
    rw [h0] at this
    cases this
  obtain ⟨ml, hml⟩ := h.ml
  have e3 : 3 ≠ tb := by
    intro e
    rw [← e] at h0
    rw [h0] at hml
    cases hml
  exact ⟨fun i hi => cell_grow (h.sg i hi) hg e1, fun i hi => cell_grow (h.nm i hi) hg e2, ⟨ml, cell_grow hml hg e3⟩, h.gb, h.gm⟩
theorem row_t {e : TypeId} {z n : Nat} {v : Value} {xs : List Value} (h : w.ownsRow (b + 1) e z v n xs) (hg : w.grownBy w' (some tb)) (hl : tb < b) : w'.ownsRow (b + 1) e z v n xs :=
  own_keep h hg (fun g hg2 => by have := (h.lt g hg2).1; omega)
theorem Rr.asked {m' : Nat} (h : Rr w0 b tb pb qa w m T s) (hg : w.grownBy w' (some tb)) (ht : TS w' tb m') : Rr w0 b tb pb qa w' m' T s ∧ KT w w' := by
  have hty := TS.tyb h.ts
  obtain ⟨A, cap, q1, q2, q3, q4⟩ := h.rb.blk
  have hne : ∀ a, A = some a → a.block ≠ tb := fun a ha => (q4 a ha).2.ne hty (by decide)
  obtain ⟨a0, _, _, hst⟩ := h.ts
  refine ⟨⟨⟨A, cap, q1.grown hg (by intro e; have := Option.some.inj e; have := h.tl; omega), q2, q3.grownO (.inr hne) hg, fun a ha => ⟨(q4 a ha).1, TyB.grown (q4 a ha).2 hg (hne a ha)⟩⟩, row_t h.r hg h.tl, fun x hx => (h.cc x hx).grown hg ((h.cc x hx).off hty (by decide)), row_t h.p hg h.tl, row_t h.q hg h.tl, h.ev.asked hst hg, ⟨h.pz.blk.grown hg (by intro e; exact (h.pz.blk.tyb.ne hty (by decide)) (Option.some.inj e)), h.pz.lt⟩, ht, h.tl, grown_trans h.gr hg (fun k hk => .inl hk), h.hb, h.inn, h.sz⟩, KT.grown hg hty (by decide)⟩
theorem Rr.other {g : Nat} {U : TypeId} (h : Rr w0 b tb pb qa w m T s) (hg : w.grownBy w' (some g)) (ht : TyB w g U) (hb : b < g) (n1 : U ≠ 148) (n2 : U ≠ 70) (n3 : U ≠ 90) (n4 : U ≠ 72) (n5 : U ≠ 97) :
    Rr w0 b tb pb qa w' m T s := by
  have hk : ∀ {e : TypeId} {z n : Nat} {v : Value} {xs : List Value}, w.ownsRow (b + 1) e z v n xs → U ≠ e → w'.ownsRow (b + 1) e z v n xs := fun h hn => own_keep h hg (fun q hq => ((own_tyP h) q hq).ne ht (Ne.symm hn))
  exact ⟨h.rb.grown hg hb, hk h.r n2, fun x hx => (h.cc x hx).grown hg ((h.cc x hx).off ht (Ne.symm n3)), hk h.p n4, hk h.q n5, h.ev.grown hg (Nat.le_of_lt hb), h.pz.grown hg (Nat.le_of_lt hb), TS.off h.ts hg ht n1, h.tl, grown_trans h.gr hg (fun k hk => by cases hk; exact .inr (by have := h.hb; omega)), h.hb, h.inn, h.sz⟩
theorem KT.drew (w : World) : KT w w.drew := fun _ _ h => h
end
end Go.Proofs.YtinofjbnfmalkaaGreatDoor.Pa
