/- A policy that is bent: what its blocks hold behind each way of bending. -/
import Derived.Test.YtonpakndocgndaaGreatDoorOpenP
import Derived.Test.YtonpakndocgndaaGreatDoorFewW
namespace Go.Proofs.YtonpakndocgndaaGreatDoor
open Go.RowKit Go.WideElems Go.Maps Go.WideMaps Go.ChangeMaps
theorem TS.tyb {w : World} {tb n : Nat} (h : TS w tb n) : TyB w tb 86 := by
  obtain ⟨_, _, _, h⟩ := h
  rcases h with ⟨_, h⟩ | ⟨_, _, _, _, h, _⟩
  · exact ⟨_, _, h⟩
  · exact ⟨_, _, h⟩
/-- A policy that the law goes through: what the walks want of it. -/
structure Fine (p : PolV) : Prop where
  nameF : p.name.length ≤ maxLen
  dfltF : p.dflt < 4294967296
  rulesF : p.rules.length ≤ 80
  ruleF : ∀ r ∈ p.rules, r.m.ok ∧ r.m.conds.length ≤ 20
  hdF : p.handled < 65536
  pathsF : p.paths.length ≤ 50
  pathF : ∀ x ∈ p.paths, x.1.length ≤ maxLen ∧ x.2 < 65536
  portsF : p.ports.length ≤ 50
  portF : ∀ x ∈ p.ports, x.1 < 65536 ∧ x.2 < 65536
  fitF : p.paths.length ≤ p.Pc ∧ p.ports.length ≤ p.Qc
/-- The three policies, as cells. -/
def polL (p : PolV) : List Value := [.string ⟨p.name.toArray⟩, .int .u32 p.dflt, .slice p.RA p.rules.length p.Rc, .int .u16 p.handled, .slice p.PA p.paths.length p.Pc, .slice p.QA p.ports.length p.Qc]
/-- The same, of what it says alone. -/
structure FineB (nm : Bs) (act : Nat) (rs : List RuleV) (hd : Nat) (pt : List (Bs × Nat)) (po : List (Nat × Nat)) : Prop where
  b1 : nm.length ≤ maxLen
  b2 : act < 4294967296
  b3 : rs.length ≤ 80
  b4 : ∀ r ∈ rs, r.m.ok ∧ r.m.conds.length ≤ 20
  b5 : hd < 65536
  b6 : pt.length ≤ 50
  b7 : ∀ x ∈ pt, x.1.length ≤ maxLen ∧ x.2 < 65536
  b8 : po.length ≤ 50
  b9 : ∀ x ∈ po, x.1 < 65536 ∧ x.2 < 65536
theorem SmOk.bent {nm : Bs} {act : Nat} {rs : List RuleV} {hd : Nat} {pt : List (Bs × Nat)} {po : List (Nat × Nat)} (h : SmOk nm act rs hd pt po) : FineB nm act rs hd pt po := by
  have h1 := h.path.len
  have h2 := h.port.len
  have h3 := h.many
  have h4 := h.short
  exact ⟨show nm.length ≤ maxLen by unfold maxLen; omega, h.act32, show rs.length ≤ 80 by omega, fun r hr => ⟨(h.rule r hr).2.2, by have := (h.rule r hr).2.1; omega⟩, h.hd16, show pt.length ≤ 50 by omega,
    fun x hx => ⟨by have := dirs6_ok x.1 (h.path.each x hx).1; unfold maxLen; omega, (h.path.each x hx).2.2⟩, show po.length ≤ 50 by omega, fun x hx => ⟨by have := (h.port.each x hx).1; omega, (h.port.each x hx).2.2⟩⟩
section
variable {nm : Bs} {act : Nat} {rs : List RuleV} {hd : Nat} {pt : List (Bs × Nat)} {po : List (Nat × Nat)}
theorem FineB.rule (h : FineB nm act rs hd pt po) (hl : rs.length ≤ 12) (r : RuleV) (h1 : r.m.ok) (h2 : r.m.conds.length ≤ 20) : FineB nm act (rs ++ [r]) hd pt po :=
  ⟨h.b1, h.b2, by rw [List.length_append]; simp; omega, fun x hx => by
    rcases List.mem_append.1 hx with hx | hx
    · exact h.b4 x hx
    · simp only [List.mem_singleton] at hx; subst hx; exact ⟨h1, h2⟩, h.b5, h.b6, h.b7, h.b8, h.b9⟩
theorem FineB.path (h : FineB nm act rs hd pt po) (hl : pt.length ≤ 6) (x : Bs × Nat) (h1 : x.1.length ≤ maxLen ∧ x.2 < 65536) : FineB nm act rs hd (pt ++ [x]) po :=
  ⟨h.b1, h.b2, h.b3, h.b4, h.b5, by rw [List.length_append]; simp; omega, fun y hy => by
    rcases List.mem_append.1 hy with hy | hy
    · exact h.b7 y hy
    · simp only [List.mem_singleton] at hy; subst hy; exact h1, h.b8, h.b9⟩
theorem FineB.port (h : FineB nm act rs hd pt po) (hl : po.length ≤ 4) (x : Nat × Nat) (h1 : x.1 < 65536 ∧ x.2 < 65536) : FineB nm act rs hd pt (po ++ [x]) :=
  ⟨h.b1, h.b2, h.b3, h.b4, h.b5, h.b6, h.b7, by rw [List.length_append]; simp; omega, fun y hy => by
    rcases List.mem_append.1 hy with hy | hy
    · exact h.b9 y hy
    · simp only [List.mem_singleton] at hy; subst hy; exact h1⟩
theorem FineB.twice (h : FineB nm act rs hd pt po) (hl : pt.length ≤ 6) : FineB nm act rs hd (pt ++ pt) po :=
  ⟨h.b1, h.b2, h.b3, h.b4, h.b5, by rw [List.length_append]; omega, fun y hy => by
    rcases List.mem_append.1 hy with hy | hy <;> exact h.b7 y hy, h.b8, h.b9⟩
theorem FineB.hand (h : FineB nm act rs hd pt po) (hd' : Nat) (h1 : hd' < 65536) : FineB nm act rs hd' pt po := ⟨h.b1, h.b2, h.b3, h.b4, h1, h.b6, h.b7, h.b8, h.b9⟩
/-- What the cut wants behind the ways of bending. -/
theorem bent_of {w7 wx : World} {B B1 B2 tb : Nat} {z1 : List Value} {v2 v4 v5 : Value} (h : RB kP w7 wx B B1 B2 z1 (.string ⟨nm.toArray⟩) (.int .u32 act) v2 (.int .u16 hd) v4 v5 rs pt po) (hF : FineB nm act rs hd pt po) (hT : TyB w7 tb 86) :
    ∃ b : PolV, Hid (Fine b) ∧ Hid (Bk wx B2 30 (polL b)) ∧ Hid (Bk wx B1 30 z1) ∧ Hid (Below w7.heap.size w7 wx) ∧ Hid (Reads wx b) ∧ Hid (OffP b tb) := by
  have ht := hT.below h.bel
  obtain ⟨A1, c1, rfl, g1, h1, _⟩ := own_typed h.r
  obtain ⟨A2, c2, rfl, g2, h2, _⟩ := own_typed h.p
  obtain ⟨A3, c3, rfl, g3, h3, _⟩ := own_typed h.q
  exact ⟨⟨nm, act, rs, A1, c1, hd, pt, A2, c2, po, A3, c3⟩, ⟨hF.b1, hF.b2, hF.b3, hF.b4, hF.b5, hF.b6, hF.b7, hF.b8, hF.b9, ⟨g2, g3⟩⟩, h.out, h.res, h.bel, ⟨h1.rd, fun r hr => (h.c r hr).rd, h2.rd, h3.rd⟩, ⟨h1.off ht (by decide), fun r hr => (h.c r hr).off ht (by decide), h2.off ht (by decide), h3.off ht (by decide)⟩⟩
end
section
variable {K : Kd} {w wr w' : World} {B B1 B2 : Nat} {z1 : List Value} {v0 v1 v2 v3 v4 v5 v' : Value} {rs : List RuleV} {pt : List (Bs × Nat)} {po : List (Nat × Nat)}
/-- Other rights are handled. -/
theorem RB.setHd (h : RB K w wr B B1 B2 z1 v0 v1 v2 v3 v4 v5 rs pt po) : RB K w (wr.setCell ⟨B2, 3, none⟩ v') B B1 B2 z1 v0 v1 v2 v' v4 v5 rs pt po := by
  have hs := only_set wr B2 3 v'
  have hcT := h.out.tyb
  have ho : ∀ {e z n v xs}, wr.ownsRow B e z v n xs → e ≠ K.tP → (wr.setCell ⟨B2, 3, none⟩ v').ownsRow B e z v n xs := fun {e z n v xs} hh hne => by
    obtain ⟨_, _, _, _, _, ht, _⟩ := own_typed hh
    exact own_keep hh hs (fun b hb => (ht b hb).ne hcT hne)
  exact ⟨h.out.set 3 v', h.res.grown hs (fun e => h.hB1.2 (Option.some.inj e)), ho h.r K.n13, fun y hy => (h.c y hy).grown hs ((h.c y hy).off hcT K.n14), ho h.p K.n15, ho h.q K.n16,
    h.bel.grown hs h.bel.size (fun g hg2 => by cases hg2; exact h.hB2), ⟨h.hB.1, Nat.le_trans h.hB.2 hs.size⟩, h.hB2, h.hB1⟩
/-- More paths at once. -/
theorem RB.addPaths (h : RB K w wr B B1 B2 z1 v0 v1 v2 v3 v4 v5 rs pt po) (ql : List (Bs × Nat)) (hown : w'.ownsRow B K.tB 2 v' (pt.length + ql.length) (pt.flatMap K.fB ++ ql.flatMap K.fB)) (hg : wr.grownBy w' v4.ownBlock) :
    RB K w (w'.setCell ⟨B2, 4, none⟩ v') B B1 B2 z1 v0 v1 v2 v3 v' v5 rs (pt ++ ql) po := by
  obtain ⟨_, _, _, _, _, hty, _⟩ := own_typed h.p
  obtain ⟨_, _, _, _, _, hty', _⟩ := own_typed hown
  have hl := fun g hg2 => (h.p.lt g hg2).1
  have ho := h.out.appended hg hty K.n8
  have hs := only_set w' B2 4 v'
  have hcT := ho.tyb
  refine ⟨ho.set 4 v', (h.res.appended hg hty K.n8).grown hs (fun e => h.hB1.2 (Option.some.inj e)), ?_, fun y hy => ?_, ?_, ?_, bel_app h.bel hg hl h.hB.1 h.hB2 4 v', ⟨h.hB.1, Nat.le_trans h.hB.2 (Nat.le_trans hg.size hs.size)⟩, h.hB2, h.hB1⟩
  · have := own_appended h.r hg hty K.n6
    obtain ⟨_, _, _, _, _, ht, _⟩ := own_typed this
    exact own_keep this hs (fun b hb => (ht b hb).ne hcT K.n13)
  · have := (h.c y hy).appended hg hty K.n5
    exact this.grown hs (this.off hcT K.n14)
  · rw [List.length_append, List.flatMap_append]
    exact own_keep hown hs (fun b hb => (hty' b hb).ne hcT K.n15)
  · have := own_appended h.q hg hty K.n7
    obtain ⟨_, _, _, _, _, ht, _⟩ := own_typed this
    exact own_keep this hs (fun b hb => (ht b hb).ne hcT K.n16)
/-- A store of a row without more things behind it (nothing was appended). -/
theorem RB.same4 (h : RB K w wr B B1 B2 z1 v0 v1 v2 v3 v4 v5 rs pt po) : RB K w (wr.setCell ⟨B2, 4, none⟩ v4) B B1 B2 z1 v0 v1 v2 v3 v4 v5 rs pt po := by
  have hs := only_set wr B2 4 v4
  have hcT := h.out.tyb
  have ho : ∀ {e z n v xs}, wr.ownsRow B e z v n xs → e ≠ K.tP → (wr.setCell ⟨B2, 4, none⟩ v4).ownsRow B e z v n xs := fun {e z n v xs} hh hne => by
    obtain ⟨_, _, _, _, _, ht, _⟩ := own_typed hh
    exact own_keep hh hs (fun b hb => (ht b hb).ne hcT hne)
  exact ⟨h.out.set 4 v4, h.res.grown hs (fun e => h.hB1.2 (Option.some.inj e)), ho h.r K.n13, fun y hy => (h.c y hy).grown hs ((h.c y hy).off hcT K.n14), ho h.p K.n15, ho h.q K.n16,
    h.bel.grown hs h.bel.size (fun g hg2 => by cases hg2; exact h.hB2), ⟨h.hB.1, Nat.le_trans h.hB.2 hs.size⟩, h.hB2, h.hB1⟩
/-- Other rules, in a row of their own that has just been made. -/
theorem RB.newRules (h : RB K w wr B B1 B2 z1 v0 v1 v2 v3 v4 v5 rs pt po) (rs' : List RuleV) (hc0 : ∀ x ∈ rs', x.m.conds = [] ∧ x.A = none) (hown : w'.ownsRow B K.tR 3 v' rs'.length (rs'.flatMap RuleV.cells)) (hg : wr.grownBy w' none) :
    RB K w (w'.setCell ⟨B2, 2, none⟩ v') B B1 B2 z1 v0 v1 v' v3 v4 v5 rs' pt po := by
  have hb : Below wr.heap.size wr w' := ⟨hg.os, hg.tape, hg.output, hg.size, fun i hi => hg.block i hi (by simp)⟩
  obtain ⟨_, _, _, _, _, hty', _⟩ := own_typed hown
  have hs := only_set w' B2 2 v'
  have ho := h.out.kept hb
  have hcT := ho.tyb
  have hk : ∀ {e z n v xs}, wr.ownsRow B e z v n xs → e ≠ K.tP → (w'.setCell ⟨B2, 2, none⟩ v').ownsRow B e z v n xs := fun {e z n v xs} hh hne => by
    have := own_below hh hb
    obtain ⟨_, _, _, _, _, ht, _⟩ := own_typed this
    exact own_keep this hs (fun b hb => (ht b hb).ne hcT hne)
  refine ⟨ho.set 2 v', (h.res.kept hb).grown hs (fun e => h.hB1.2 (Option.some.inj e)), own_keep hown hs (fun b hb => (hty' b hb).ne hcT K.n13), fun y hy => ?_, hk h.p K.n15, hk h.q K.n16,
    (h.bel.trans (hb.mono h.bel.size)).grown hs (Nat.le_trans h.bel.size hg.size) (fun g hg2 => by cases hg2; exact h.hB2), ⟨h.hB.1, Nat.le_trans h.hB.2 (Nat.le_trans hg.size hs.size)⟩, h.hB2, h.hB1⟩
  obtain ⟨e1, e2⟩ := hc0 y hy
  rw [e1, e2]
  exact TRd.nil _ _ _
/-- A cell of a rule is stored, in a row of rules without conditions. -/
theorem RB.storedRule {g m cap j : Nat} {u : Value} {rs' : List RuleV} (h : RB K w wr B B1 B2 z1 v0 v1 (.slice (some ⟨g, 0, none⟩) m cap) v3 v4 v5 rs pt po) (hm : rs.length = m) (hm' : rs'.length = m) (hc0 : ∀ x ∈ rs', x.m.conds = [] ∧ x.A = none) (hs : (rs.flatMap RuleV.cells).set j u = rs'.flatMap RuleV.cells) :
    RB K w (wr.setCell ⟨g, j, none⟩ u) B B1 B2 z1 v0 v1 (.slice (some ⟨g, 0, none⟩) m cap) v3 v4 v5 rs' pt po := by
  have hr := h.r
  rw [hm] at hr
  obtain ⟨h1, h2⟩ := hr.stored j u
  obtain ⟨_, _, _, _, _, hty, _⟩ := own_typed hr
  have hgt : TyB wr g K.tR := hty g rfl
  have hgl := hr.lt g rfl
  have hk : ∀ {e z n v xs}, wr.ownsRow B e z v n xs → e ≠ K.tR → (wr.setCell ⟨g, j, none⟩ u).ownsRow B e z v n xs := fun {e z n v xs} hh hne => by
    obtain ⟨_, _, _, _, _, ht, _⟩ := own_typed hh
    exact own_keep hh h2 (fun b hb => (ht b hb).ne hgt hne)
  refine ⟨h.out.grown h2 (fun e => (h.out.tyb.ne hgt K.n4) (Option.some.inj e)), h.res.grown h2 (fun e => (h.res.tyb.ne hgt K.n4) (Option.some.inj e)), ?_, fun y hy => ?_, hk h.p K.n2, hk h.q K.n3,
    h.bel.grown h2 h.bel.size (fun k hk => by cases hk; exact Nat.le_trans h.hB.1 hgl.1), ⟨h.hB.1, Nat.le_trans h.hB.2 h2.size⟩, h.hB2, h.hB1⟩
  · rw [hm', ← hs]; exact h1
  · obtain ⟨e1, e2⟩ := hc0 y hy
    rw [e1, e2]
    exact TRd.nil _ _ _
end
/-- A rule of nought: its action alone. -/
def zr (a : Nat) : RuleV := ⟨⟨0, a, []⟩, none, 0⟩
def made (i m : Nat) : List RuleV := List.replicate i (zr 2147418112) ++ List.replicate (m - i) (zr 0)
theorem made_len {i m : Nat} (h : i ≤ m) : (made i m).length = m := by unfold made; simp; omega
theorem made_nil (i m : Nat) : ∀ x ∈ made i m, x.m.conds = [] ∧ x.A = none := by
  intro x hx
  unfold made at hx
  rcases List.mem_append.1 hx with hx | hx <;> (obtain ⟨_, rfl⟩ := List.mem_replicate.1 hx; exact ⟨rfl, rfl⟩)
theorem made_set {i m : Nat} (h : i < m) : ((made i m).flatMap RuleV.cells).set (i * 3 + 1) (.int .u32 2147418112) = (made (i + 1) m).flatMap RuleV.cells := by
  unfold made
  obtain ⟨k, rfl⟩ : ∃ k, m = i + (k + 1) := ⟨m - i - 1, by omega⟩
  rw [show i + (k + 1) - i = k + 1 from by omega, show i + (k + 1) - (i + 1) = k from by omega, List.replicate_succ (n := k), List.replicate_succ' (n := i), List.flatMap_append, List.flatMap_append, List.flatMap_append, List.flatMap_cons]
  have hl : ((List.replicate i (zr 2147418112)).flatMap RuleV.cells).length = i * 3 := by rw [flatz_len RuleV.cells 3 (fun _ => rfl)]; simp
  rw [List.set_append_right _ _ (by rw [hl]; omega), hl, show i * 3 + 1 - i * 3 = 1 from by omega]
  simp [RuleV.cells, zr]
theorem made_zero (m : Nat) : (madeCells #[.int .u32 0, .int .u32 0, .slice none 0 0] (m * 3)).toList = (made 0 m).flatMap RuleV.cells := by
  apply List.ext_getElem?
  intro j
  have hs : j = j / 3 * 3 + j % 3 := by omega
  have h3 : j % 3 < 3 := by omega
  have hr : ((made 0 m).flatMap RuleV.cells)[j]? = ((made 0 m)[j / 3]?).bind (fun x => (RuleV.cells x)[j % 3]?) := by
    rw [← flatz RuleV.cells 3 (fun _ => rfl) (by omega) _ (j / 3) (j % 3) h3, ← hs]
  rw [hr]
  unfold made
  simp only [List.replicate_zero, List.nil_append, Nat.sub_zero]
  by_cases hj : j < m * 3
  · rw [List.getElem?_replicate, if_pos (by omega)]
    simp only [Option.bind_some]
    rcases (by omega : j % 3 = 0 ∨ j % 3 = 1 ∨ j % 3 = 2) with e | e | e <;> simp [madeCells, hj, e, RuleV.cells, zr]
  · rw [List.getElem?_replicate, if_neg (by omega)]
    simp [madeCells, hj]
theorem made_fine {nm : Bs} {act : Nat} {rs : List RuleV} {hd : Nat} {pt : List (Bs × Nat)} {po : List (Nat × Nat)} (h : FineB nm act rs hd pt po) {m : Nat} (hm : m ≤ 80) : FineB nm act (made m m) hd pt po :=
  ⟨h.b1, h.b2, by rw [made_len (Nat.le_refl _)]; exact hm, fun x hx => by
    unfold made at hx
    rcases List.mem_append.1 hx with hx | hx
    · obtain ⟨_, rfl⟩ := List.mem_replicate.1 hx
      exact ⟨⟨by decide, by decide, by simp [zr], by simp [zr]⟩, by simp [zr]⟩
    · simp at hx, h.b5, h.b6, h.b7, h.b8, h.b9⟩
/-- A condition in a block of its own, as a rule's. -/
theorem one_cond {w : World} {g : Nat} {c : CondM} (h : Bk w g 39 c.cells) : TRd w 39 4 1 (some ⟨g, 0, none⟩) ([c].flatMap CondM.cells) := by
  simp only [List.flatMap_cons, List.flatMap_nil, List.append_nil]
  exact ⟨⟨rfl, .inr ⟨g, 0, rfl, h.lt, fun j u hu => by rw [Nat.zero_add]; exact h.cell j hu⟩⟩, .inr ⟨_, rfl, h.tyb⟩⟩
/-- A row behind a row that the call owns. -/
theorem append_row {w : World} {ops : Array Oper} {rest : List Oper} {o : Oper} {a : Act} {Q : Exit → Act → World → Prop} (hgd : o.guard = none) (s x : Operand) (t e : TypeId)
    (ho : o.op = .call { callee := .builtin .append, args := #[s, x], argTypes := #[t, t] }) (zero : Value) (size bytes : Nat)
    (hinfo : (Tryz.prog.info? e).map (fun i => (i.zero, i.size, i.bytes)) = some (some zero, size, bytes)) (ht : Tryz.prog.underlying t = some (.slice e)) (hzs : zero.cells.size = size) (hsz : 0 < size) (hby : bytes ≤ 64)
    (base : Nat) (v : Value) (n : Nat) (xs : List Value) (hs : a.eval s = v) (hown : w.ownsRow base e size v n xs) (g m c : Nat) (news : List Value) (hx : a.eval x = .slice (some ⟨g, 0, none⟩) m c) (hl : news.length = m * size) (hB : ∀ j u, news[j]? = some u → w.cell? ((⟨g, 0, none⟩ : Addr).add j) = some u) (h1 : ∀ u ∈ news, u.oneCell' = true) (hn : n + m ≤ 100000) (hbase : base ≤ w.heap.size)
    (h : ∀ v' w', w'.ownsRow base e size v' (n + m) (xs ++ news) → w.grownBy w' v.ownBlock → wpList Tryz.prog ops Q rest (a.put o.dst v') w') : wpList Tryz.prog ops Q (o :: rest) a w := by
  obtain ⟨i0, hi, hz0, hz1, hz2⟩ := info_parts hinfo
  refine wpList_append_own_at w hgd s x t ho base e i0 zero size bytes ht hi hz0 hz1 hz2 hzs hsz v n xs hs hown ⟨g, 0, none⟩ m c news hx hl hB h1 (by unfold maxLen; omega) ?_ hbase (fun v' w' h1 h2 _ _ => h v' w' h1 h2)
  have : (n + m) * bytes ≤ 100000 * 64 := Nat.mul_le_mul (by omega) hby
  omega
theorem append_nothing {w : World} {ops : Array Oper} {rest : List Oper} {o : Oper} {a : Act} {Q : Exit → Act → World → Prop} (hgd : o.guard = none) (s x : Operand) (t e : TypeId)
    (ho : o.op = .call { callee := .builtin .append, args := #[s, x], argTypes := #[t, t] }) (zero : Value) (size bytes : Nat)
    (hinfo : (Tryz.prog.info? e).map (fun i => (i.zero, i.size, i.bytes)) = some (some zero, size, bytes)) (ht : Tryz.prog.underlying t = some (.slice e))
    (base : Nat) (v : Value) (n : Nat) (xs : List Value) (hs : a.eval s = v) (hown : w.ownsRow base e size v n xs) (hx : a.eval x = .slice none 0 0)
    (h : wpList Tryz.prog ops Q rest (a.put o.dst v) w) : wpList Tryz.prog ops Q (o :: rest) a w := by
  obtain ⟨i0, hi, _, _, _⟩ := info_parts hinfo
  exact wpList_append_own_none hgd s x t ho base e i0 size ht hi v n xs hs hown hx h
/-- A row of rules is made. -/
theorem make_rules {w : World} {ops : Array Oper} {rest : List Oper} {o : Oper} {a : Act} {Q : Exit → Act → World → Prop} (hg : o.guard = none) (l : Operand) (hop : o.op = Op.makeSlice 24 l l)
    (base m : Nat) (L : Int) (hl : a.eval l = .int .i64 L) (hL : L = (m : Int)) (hm : m ≤ 1000) (hb : base ≤ w.heap.size)
    (hK : ∀ w', w'.ownsRow base 47 3 (.slice (some ⟨w.heap.size, 0, none⟩) m m) m ((made 0 m).flatMap RuleV.cells) → w.grownBy w' none → wpList Tryz.prog ops Q rest (a.put o.dst (.slice (some ⟨w.heap.size, 0, none⟩) m m)) w') :
    wpList Tryz.prog ops Q (o :: rest) a w := by
  obtain ⟨i0, hi, hz0, hz1, hz2⟩ := info_parts infoPR
  refine wpList_make_full w hg l l 24 hop base 47 i0 (.agg #[.int .u32 0, .int .u32 0, .slice none 0 0]) 3 Tryz.underlying24 hi hz0 hz1 .i64 .i64 L L m hl hl hL hL (by rw [hz2]; omega) (by unfold maxLen; omega) hb (fun w' h1 h2 => hK w' ?_ h2)
  rw [show (Value.agg #[.int .u32 0, .int .u32 0, .slice none 0 0]).cells = #[.int .u32 0, .int .u32 0, .slice none 0 0] from rfl, made_zero] at h1
  exact h1
theorem path_one (pt : List (Bs × Nat)) : ∀ u ∈ pt.flatMap pathC, u.oneCell' = true := by
  intro u hu
  obtain ⟨x, _, hx⟩ := List.mem_flatMap.1 hu
  simp only [pathC, List.mem_cons, List.not_mem_nil, or_false] at hx
  rcases hx with rfl | rfl <;> rfl
end Go.Proofs.YtonpakndocgndaaGreatDoor
