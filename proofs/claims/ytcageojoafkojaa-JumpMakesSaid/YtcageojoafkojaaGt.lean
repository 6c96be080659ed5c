/- Rows told apart by their blocks' types; one thing behind a row. -/
import Derived.Test.YtcageojoafkojaaGx
import Derived.Test.YtcageojoafkojaaGa
import Derived.Laws.AppendOwnNone
namespace Go.Proofs.Ytcageojoafkojaa
open Go.RowKit Go.WideElems
theorem oneb (w : World) (o : Obj) : Below w.heap.size w (w.alloc o) := (Below.refl _ _).alloc (Nat.le_refl _) _
theorem addr_at (b o j : Nat) : (⟨b, o, none⟩ : Addr).add j = ⟨b, o + j, none⟩ := by unfold Addr.add; split <;> simp_all
/-- A block of things of a type. -/
def TyB (w : World) (b : Nat) (T : TypeId) : Prop := ∃ cur fz, w.heap[b]? = some (.cells cur T fz)
theorem TyB.lt {w : World} {b : Nat} {T : TypeId} (h : TyB w b T) : b < w.heap.size := by obtain ⟨_, _, h⟩ := h; exact (Array.getElem?_eq_some_iff.1 h).1
theorem TyB.ne {w : World} {b c : Nat} {T U : TypeId} (h : TyB w b T) (k : TyB w c U) (hn : T ≠ U) : b ≠ c := by
  rintro rfl
  obtain ⟨_, _, h⟩ := h
  obtain ⟨_, _, k⟩ := k
  rw [h] at k
  cases k
  exact hn rfl
theorem Bk.tyb {w : World} {g t : Nat} {l : List Value} (h : Bk w g t l) : TyB w g t := ⟨_, _, h⟩
theorem TyB.below {w w' : World} {b : Nat} {T : TypeId} (h : TyB w b T) (hb : Below w.heap.size w w') : TyB w' b T := by
  obtain ⟨c, f, h⟩ := h
  exact ⟨c, f, (hb.block b (Array.getElem?_eq_some_iff.1 h).1).trans h⟩
/-- A slice that reads so, in a block of a type. -/
structure TRd (w : World) (T : TypeId) (z n : Nat) (A : Option Addr) (xs : List Value) : Prop where
  rd : Rd w z n A xs
  ty : n = 0 ∨ ∃ a, A = some a ∧ TyB w a.block T
theorem TRd.nil (w : World) (T : TypeId) (z : Nat) : TRd w T z 0 none [] := ⟨Rd.nil _ _ _, .inl rfl⟩
theorem TRd.below {w w' : World} {T : TypeId} {z n : Nat} {A : Option Addr} {xs : List Value} (h : TRd w T z n A xs) (hb : Below w.heap.size w w') : TRd w' T z n A xs :=
  ⟨h.rd.below hb, h.ty.imp id fun ⟨a, e, k⟩ => ⟨a, e, k.below hb⟩⟩
theorem TRd.grown {w w' : World} {T : TypeId} {z n g : Nat} {A : Option Addr} {xs : List Value} (h : TRd w T z n A xs) (hg : w.grownBy w' (some g)) (ho : Off n A g) : TRd w' T z n A xs :=
  ⟨h.rd.grownO ho hg, by
    rcases h.ty with e | ⟨a, e, c, f, k⟩
    · exact .inl e
    · rcases ho with e2 | ho
      · exact .inl e2
      · exact .inr ⟨a, e, c, f, (hg.block _ (Array.getElem?_eq_some_iff.1 k).1 (fun e2 => ho a e (Option.some.inj e2))).trans k⟩⟩
theorem TRd.grownN {w w' : World} {T : TypeId} {z n : Nat} {A : Option Addr} {xs : List Value} (h : TRd w T z n A xs) (hg : w.grownBy w' none) : TRd w' T z n A xs :=
  h.below ⟨hg.os, hg.tape, hg.output, hg.size, fun i hi => hg.block i hi (by simp)⟩
theorem TRd.off {w : World} {T U : TypeId} {z n g : Nat} {A : Option Addr} {xs : List Value} (h : TRd w T z n A xs) (k : TyB w g U) (hn : T ≠ U) : Off n A g :=
  h.ty.imp id fun ⟨a, e, c⟩ b hb => by cases e.symm.trans hb; exact c.ne k hn
theorem TRd.offlt {w : World} {T : TypeId} {z n g : Nat} {A : Option Addr} {xs : List Value} (h : TRd w T z n A xs) (hg : w.heap.size ≤ g) : Off n A g := h.rd.off hg
/-- What a call owns: where it lies, of which type. -/
theorem own_typed {w : World} {base : Nat} {e : TypeId} {z n : Nat} {v : Value} {xs : List Value} (h : w.ownsRow base e z v n xs) :
    ∃ A c, v = .slice A n c ∧ n ≤ c ∧ TRd w e z n A xs ∧ (∀ g, v.ownBlock = some g → TyB w g e) ∧ (A = none → c = 0) := by
  rcases h.2 with ⟨rfl, rfl⟩ | ⟨g, cap, cur, rfl, hb, hh, hn, hm, hs, rfl⟩
  · exact ⟨none, 0, rfl, Nat.le_refl _, ⟨⟨h.1, .inl rfl⟩, .inl rfl⟩, fun g hg => (by cases hg), fun _ => rfl⟩
  · refine ⟨_, cap, rfl, hn, ⟨⟨h.1, .inr ⟨g, 0, rfl, (Array.getElem?_eq_some_iff.1 hh).1, fun j u hu => ?_⟩⟩, .inr ⟨_, rfl, _, _, hh⟩⟩, fun g' hg' => ?_, fun e => by cases e⟩
    · have := h.cells (g := g) rfl j u hu
      rw [← this, addr_at]
    · cases hg'
      exact ⟨_, _, hh⟩
theorem own_keep {w w' : World} {base : Nat} {e : TypeId} {z n g : Nat} {v : Value} {xs : List Value} (h : w.ownsRow base e z v n xs) (hg : w.grownBy w' (some g)) (hne : ∀ b, v.ownBlock = some b → b ≠ g) : w'.ownsRow base e z v n xs := by
  refine ⟨h.1, h.2.imp id ?_⟩
  rintro ⟨b, cap, cur, e, h1, h2, h3⟩
  refine ⟨b, cap, cur, e, h1, ?_, h3⟩
  rw [hg.block b (Array.getElem?_eq_some_iff.1 h2).1 (fun q => hne b (by subst e; rfl) (Option.some.inj q))]
  exact h2
theorem own_keepN {w w' : World} {base : Nat} {e : TypeId} {z n : Nat} {v : Value} {xs : List Value} (h : w.ownsRow base e z v n xs) (hg : Below w.heap.size w w') : w'.ownsRow base e z v n xs := own_below h hg
/-- One thing behind a row that the call owns. -/
theorem append_one {w : World} {ops : Array Oper} {rest : List Oper} {o : Oper} {a : Act} {Q : Exit → Act → World → Prop} (hgd : o.guard = none) (s x : Operand) (t e : TypeId)
    (ho : o.op = .call { callee := .builtin .append, args := #[s, x], argTypes := #[t, t] }) (zero : Value) (size bytes : Nat)
    (hinfo : (Try.prog.info? e).map (fun i => (i.zero, i.size, i.bytes)) = some (some zero, size, bytes)) (ht : Try.prog.underlying t = some (.slice e)) (hzs : zero.cells.size = size) (hsz : 0 < size) (hby : bytes ≤ 64)
    (base : Nat) (v : Value) (n : Nat) (xs : List Value) (hs : a.eval s = v) (hown : w.ownsRow base e size v n xs) (g : Nat) (news : List Value) (hx : a.eval x = .slice (some ⟨g, 0, none⟩) 1 1) (hl : news.length = size) (hB : Bk w g e news) (h1 : ∀ u ∈ news, u.oneCell' = true) (hn : n ≤ 100000) (hbase : base ≤ w.heap.size)
    (h : ∀ v' w', w'.ownsRow base e size v' (n + 1) (xs ++ news) → w.grownBy w' v.ownBlock → (v'.ownBlock = v.ownBlock ∨ v'.ownBlock = some w.heap.size) → wpList Try.prog ops Q rest (a.put o.dst v') w') : wpList Try.prog ops Q (o :: rest) a w := by
  obtain ⟨i0, hi, hz0, hz1, hz2⟩ := info_parts hinfo
  refine wpList_append_own_at w hgd s x t ho base e i0 zero size bytes ht hi hz0 hz1 hz2 hzs hsz v n xs hs hown ⟨g, 0, none⟩ 1 1 news hx (by omega) (fun j u hu => by rw [addr_at, Nat.zero_add]; exact hB.cell j hu) h1 (by unfold maxLen; omega) ?_ hbase (fun v' w' h1 h2 _ h3 => h v' w' h1 h2 h3)
  have : (n + 1) * bytes ≤ 100001 * 64 := Nat.mul_le_mul (by omega) hby
  omega
/-- What a row's append leaves of another row, by the types of their blocks. -/
theorem TRd.appended {w w' : World} {T U : TypeId} {z n : Nat} {A : Option Addr} {xs : List Value} {v : Value} (h : TRd w T z n A xs) (hg : w.grownBy w' v.ownBlock) (hv : ∀ g, v.ownBlock = some g → TyB w g U) (hn : T ≠ U) : TRd w' T z n A xs := by
  cases hb : v.ownBlock with
  | none => rw [hb] at hg; exact h.grownN hg
  | some g => rw [hb] at hg; exact h.grown hg (h.off (hv g hb) hn)
theorem own_appended {w w' : World} {base : Nat} {e U : TypeId} {z n : Nat} {v u : Value} {xs : List Value} (h : w.ownsRow base e z u n xs) (hg : w.grownBy w' v.ownBlock) (hv : ∀ g, v.ownBlock = some g → TyB w g U) (hn : e ≠ U) : w'.ownsRow base e z u n xs := by
  cases hb : v.ownBlock with
  | none => rw [hb] at hg; exact own_below h ⟨hg.os, hg.tape, hg.output, hg.size, fun i hi => hg.block i hi (by simp)⟩
  | some g =>
    rw [hb] at hg
    obtain ⟨_, _, _, _, _, hty, _⟩ := own_typed h
    exact own_keep h hg (fun b hb2 => (hty b hb2).ne (hv g hb) hn)
theorem Bk.appended {w w' : World} {g t : Nat} {l : List Value} {U : TypeId} {v : Value} (h : Bk w g t l) (hg : w.grownBy w' v.ownBlock) (hv : ∀ b, v.ownBlock = some b → TyB w b U) (hn : t ≠ U) : Bk w' g t l := by
  refine h.grown hg ?_
  cases hb : v.ownBlock with
  | none => simp
  | some b => intro e; exact (h.tyb.ne (hv b hb) hn) (Option.some.inj e)
theorem Bk.appendedB {w w' : World} {g t B : Nat} {l : List Value} {v : Value} (h : Bk w g t l) (hg : w.grownBy w' v.ownBlock) (hv : ∀ b, v.ownBlock = some b → B ≤ b) (hn : g < B) : Bk w' g t l := by
  refine h.grown hg ?_
  intro e
  have := hv g e.symm
  omega
theorem infoPC : (Try.prog.info? 58).map (fun i => (i.zero, i.size, i.bytes)) = some (some (.agg #[.int .i64 0, .int .u8 0, .int .u64 0, .int .u64 0]), 4, 32) := by kernel_rfl
theorem infoPR : (Try.prog.info? 47).map (fun i => (i.zero, i.size, i.bytes)) = some (some (.agg #[.int .u32 0, .int .u32 0, .slice none 0 0]), 3, 32) := by kernel_rfl
theorem infoPB : (Try.prog.info? 92).map (fun i => (i.zero, i.size, i.bytes)) = some (some (.agg #[.string ⟨#[]⟩, .int .u16 0]), 2, 24) := by kernel_rfl
theorem infoPP : (Try.prog.info? 110).map (fun i => (i.zero, i.size, i.bytes)) = some (some (.agg #[.int .u16 0, .int .u16 0]), 2, 4) := by kernel_rfl
end Go.Proofs.Ytcageojoafkojaa
namespace Go.Proofs.Ytcageojoafkojaa
open Go.RowKit
/-- The types of a policy's parts: the policy, its rules, conditions, paths, ports; the cells of a condition, a path, a port; the cells ahead. -/
structure Kd where
  tP : TypeId
  tR : TypeId
  tC : TypeId
  tB : TypeId
  tQ : TypeId
  fC : CondM → List Value
  fB : Bs × Nat → List Value
  fQ : Nat × Nat → List Value
  hC : ∀ x, (fC x).length = 4
  hB : ∀ x, (fB x).length = 2
  hQ : ∀ x, (fQ x).length = 2
  n1 : tC ≠ tR
  n2 : tB ≠ tR
  n3 : tQ ≠ tR
  n4 : tP ≠ tR
  n5 : tC ≠ tB
  n6 : tR ≠ tB
  n7 : tQ ≠ tB
  n8 : tP ≠ tB
  n9 : tC ≠ tQ
  n10 : tR ≠ tQ
  n11 : tB ≠ tQ
  n12 : tP ≠ tQ
  n13 : tR ≠ tP
  n14 : tC ≠ tP
  n15 : tB ≠ tP
  n16 : tQ ≠ tP
structure RB (K : Kd) (w wr : World) (B B1 B2 : Nat) (z1 : List Value) (v0 v1 v2 v3 v4 v5 : Value) (rs : List RuleV) (pt : List (Bs × Nat)) (po : List (Nat × Nat)) : Prop where
  out : Bk wr B2 K.tP [v0, v1, v2, v3, v4, v5]
  res : Bk wr B1 K.tP z1
  r : wr.ownsRow B K.tR 3 v2 rs.length (rs.flatMap RuleV.cells)
  c : ∀ x ∈ rs, TRd wr K.tC 4 x.m.conds.length x.A (x.m.conds.flatMap K.fC)
  p : wr.ownsRow B K.tB 2 v4 pt.length (pt.flatMap K.fB)
  q : wr.ownsRow B K.tQ 2 v5 po.length (po.flatMap K.fQ)
  bel : Below w.heap.size w wr
  hB : w.heap.size ≤ B ∧ B ≤ wr.heap.size
  hB2 : w.heap.size ≤ B2
  hB1 : w.heap.size ≤ B1 ∧ B1 ≠ B2
section
variable {K : Kd} {w wr w' : World} {B B1 B2 : Nat} {z1 : List Value} {v0 v1 v2 v3 v4 v5 v' : Value} {rs : List RuleV} {pt : List (Bs × Nat)} {po : List (Nat × Nat)}
theorem RB.kept (h : RB K w wr B B1 B2 z1 v0 v1 v2 v3 v4 v5 rs pt po) (hb : Below wr.heap.size wr w') : RB K w w' B B1 B2 z1 v0 v1 v2 v3 v4 v5 rs pt po :=
  ⟨h.out.kept hb, h.res.kept hb, own_below h.r hb, fun x hx => (h.c x hx).below hb, own_below h.p hb, own_below h.q hb, h.bel.trans (hb.mono h.bel.size), ⟨h.hB.1, Nat.le_trans h.hB.2 hb.size⟩, h.hB2, h.hB1⟩
/-- A store into the policy itself: a row's new value. -/
theorem bel_app (h : Below w.heap.size w wr) (hg : wr.grownBy w' v2.ownBlock) (hv : ∀ g, v2.ownBlock = some g → B ≤ g) (hB : w.heap.size ≤ B) (hB2 : w.heap.size ≤ B2) (j : Nat) (v' : Value) : Below w.heap.size w (w'.setCell ⟨B2, j, none⟩ v') :=
  (h.grown hg h.size (fun g hg2 => Nat.le_trans hB (hv g hg2))).grown (only_set w' B2 j v') (Nat.le_trans h.size hg.size) (fun g hg2 => by cases hg2; exact hB2)
theorem RB.addRule (h : RB K w wr B B1 B2 z1 v0 v1 v2 v3 v4 v5 rs pt po) (x : RuleV) (hx : TRd wr K.tC 4 x.m.conds.length x.A (x.m.conds.flatMap K.fC)) (hown : w'.ownsRow B K.tR 3 v' (rs.length + 1) (rs.flatMap RuleV.cells ++ x.cells)) (hg : wr.grownBy w' v2.ownBlock) :
    RB K w (w'.setCell ⟨B2, 2, none⟩ v') B B1 B2 z1 v0 v1 v' v3 v4 v5 (rs ++ [x]) pt po := by
  obtain ⟨_, _, _, _, _, hty, _⟩ := own_typed h.r
  obtain ⟨_, _, _, _, _, hty', _⟩ := own_typed hown
  have hl := fun g hg2 => (h.r.lt g hg2).1
  have ho := h.out.appended hg hty K.n4
  have hs := only_set w' B2 2 v'
  have hcT := ho.tyb
  refine ⟨ho.set 2 v', (h.res.appended hg hty K.n4).grown hs (fun e => h.hB1.2 (Option.some.inj e)), ?_, fun y hy => ?_, ?_, ?_, bel_app h.bel hg hl h.hB.1 h.hB2 2 v', ⟨h.hB.1, Nat.le_trans h.hB.2 (Nat.le_trans hg.size hs.size)⟩, h.hB2, h.hB1⟩
  · rw [List.length_append, List.flatMap_append]
    simp only [List.length_singleton, List.flatMap_cons, List.flatMap_nil, List.append_nil]
    exact own_keep hown hs (fun b hb => (hty' b hb).ne hcT K.n13)
  · rcases List.mem_append.1 hy with hy | hy
    · have := (h.c y hy).appended hg hty K.n1
      exact this.grown hs (this.off hcT K.n14)
    · simp only [List.mem_singleton] at hy
      subst hy
      have := hx.appended hg hty K.n1
      exact this.grown hs (this.off hcT K.n14)
  · have := own_appended h.p hg hty K.n2
    obtain ⟨_, _, _, _, _, ht, _⟩ := own_typed this
    exact own_keep this hs (fun b hb => (ht b hb).ne hcT K.n15)
  · have := own_appended h.q hg hty K.n3
    obtain ⟨_, _, _, _, _, ht, _⟩ := own_typed this
    exact own_keep this hs (fun b hb => (ht b hb).ne hcT K.n16)
theorem RB.addPath (h : RB K w wr B B1 B2 z1 v0 v1 v2 v3 v4 v5 rs pt po) (x : Bs × Nat) (hown : w'.ownsRow B K.tB 2 v' (pt.length + 1) (pt.flatMap K.fB ++ K.fB x)) (hg : wr.grownBy w' v4.ownBlock) :
    RB K w (w'.setCell ⟨B2, 4, none⟩ v') B B1 B2 z1 v0 v1 v2 v3 v' v5 rs (pt ++ [x]) po := by
  obtain ⟨_, _, _, _, _, hty, _⟩ := own_typed h.p
  obtain ⟨_, _, _, _, _, hty', _⟩ := own_typed hown
  have hl := fun g hg2 => (h.p.lt g hg2).1
  have ho := h.out.appended hg hty K.n8
  have hs := only_set w' B2 4 v'
  have hcT := ho.tyb
  refine ⟨ho.set 4 v', (h.res.appended hg hty K.n8).grown hs (fun e => h.hB1.2 (Option.some.inj e)), ?_, fun y hy => ?_, ?_, ?_, bel_app h.bel hg hl h.hB.1 h.hB2 4 v', ⟨h.hB.1, Nat.le_trans h.hB.2 (Nat.le_trans hg.size hs.size)⟩, h.hB2, h.hB1⟩
  · have := own_appended h.r hg hty K.n6
    obtain ⟨_, _, _, _, _, ht, _⟩ := own_typed this
    exact own_keep this hs (fun b hb => (ht b hb).ne hcT K.n13)
  · have := (h.c y hy).appended hg hty K.n5
    exact this.grown hs (this.off hcT K.n14)
  · rw [List.length_append, List.flatMap_append]
    simp only [List.length_singleton, List.flatMap_cons, List.flatMap_nil, List.append_nil]
    exact own_keep hown hs (fun b hb => (hty' b hb).ne hcT K.n15)
  · have := own_appended h.q hg hty K.n7
    obtain ⟨_, _, _, _, _, ht, _⟩ := own_typed this
    exact own_keep this hs (fun b hb => (ht b hb).ne hcT K.n16)
theorem RB.addPort (h : RB K w wr B B1 B2 z1 v0 v1 v2 v3 v4 v5 rs pt po) (x : Nat × Nat) (hown : w'.ownsRow B K.tQ 2 v' (po.length + 1) (po.flatMap K.fQ ++ K.fQ x)) (hg : wr.grownBy w' v5.ownBlock) :
    RB K w (w'.setCell ⟨B2, 5, none⟩ v') B B1 B2 z1 v0 v1 v2 v3 v4 v' rs pt (po ++ [x]) := by
  obtain ⟨_, _, _, _, _, hty, _⟩ := own_typed h.q
  obtain ⟨_, _, _, _, _, hty', _⟩ := own_typed hown
  have hl := fun g hg2 => (h.q.lt g hg2).1
  have ho := h.out.appended hg hty K.n12
  have hs := only_set w' B2 5 v'
  have hcT := ho.tyb
  refine ⟨ho.set 5 v', (h.res.appended hg hty K.n12).grown hs (fun e => h.hB1.2 (Option.some.inj e)), ?_, fun y hy => ?_, ?_, ?_, bel_app h.bel hg hl h.hB.1 h.hB2 5 v', ⟨h.hB.1, Nat.le_trans h.hB.2 (Nat.le_trans hg.size hs.size)⟩, h.hB2, h.hB1⟩
  · have := own_appended h.r hg hty K.n10
    obtain ⟨_, _, _, _, _, ht, _⟩ := own_typed this
    exact own_keep this hs (fun b hb => (ht b hb).ne hcT K.n13)
  · have := (h.c y hy).appended hg hty K.n9
    exact this.grown hs (this.off hcT K.n14)
  · have := own_appended h.p hg hty K.n11
    obtain ⟨_, _, _, _, _, ht, _⟩ := own_typed this
    exact own_keep this hs (fun b hb => (ht b hb).ne hcT K.n15)
  · rw [List.length_append, List.flatMap_append]
    simp only [List.length_singleton, List.flatMap_cons, List.flatMap_nil, List.append_nil]
    exact own_keep hown hs (fun b hb => (hty' b hb).ne hcT K.n16)
end
def kP : Kd := ⟨30, 47, 58, 92, 110, CondM.cells, pathC, portC, fun _ => rfl, fun _ => rfl, fun _ => rfl, by decide, by decide, by decide, by decide, by decide, by decide, by decide, by decide, by decide, by decide, by decide, by decide, by decide, by decide, by decide, by decide⟩
/-- A rule that is being put together: its conditions' row, in a block of its own behind a place. -/
structure XB (K : Kd) (ws wx : World) (xb : Nat) (a0 a1 cv : Value) (l : List CondM) : Prop where
  x : Bk wx xb K.tR [a0, a1, cv]
  own : wx.ownsRow ws.heap.size K.tC 4 cv l.length (l.flatMap K.fC)
  grow : ws.grownBy wx (some xb)
  lt : xb < ws.heap.size
section
variable {K : Kd} {ws wx w' : World} {xb : Nat} {a0 a1 cv v' : Value} {l : List CondM}
theorem XB.kept (h : XB K ws wx xb a0 a1 cv l) (hb : Below wx.heap.size wx w') : XB K ws w' xb a0 a1 cv l :=
  ⟨h.x.kept hb, own_below h.own hb, grown_trans h.grow ⟨hb.os, hb.tape, hb.output, hb.size, fun i hi _ => hb.block i hi⟩ (fun k (hk : none = some k) => by cases hk), h.lt⟩
theorem XB.add (h : XB K ws wx xb a0 a1 cv l) (c : CondM) (hown : w'.ownsRow ws.heap.size K.tC 4 v' (l.length + 1) (l.flatMap K.fC ++ K.fC c)) (hg : wx.grownBy w' cv.ownBlock) : XB K ws (w'.setCell ⟨xb, 2, none⟩ v') xb a0 a1 v' (l ++ [c]) := by
  obtain ⟨_, _, _, _, _, hty, _⟩ := own_typed h.own
  obtain ⟨_, _, _, _, _, hty', _⟩ := own_typed hown
  have ho := h.x.appended hg hty K.n1.symm
  have hs := only_set w' xb 2 v'
  refine ⟨ho.set 2 v', ?_, ?_, h.lt⟩
  · rw [List.length_append, List.flatMap_append]
    simp only [List.length_singleton, List.flatMap_cons, List.flatMap_nil, List.append_nil]
    exact own_keep hown hs (fun b hb => (hty' b hb).ne ho.tyb K.n1)
  · exact grown_trans (grown_trans h.grow hg (fun k hk => .inr (h.own.lt k hk).1)) hs (fun k hk => .inl hk)
theorem XB.bel {w0 : World} (h : XB K ws wx xb a0 a1 cv l) (hw : Below w0.heap.size w0 ws) (hx : w0.heap.size ≤ xb) : Below w0.heap.size w0 wx := hw.grown h.grow hw.size (fun g hg => by cases hg; exact hx)
end
end Go.Proofs.Ytcageojoafkojaa

