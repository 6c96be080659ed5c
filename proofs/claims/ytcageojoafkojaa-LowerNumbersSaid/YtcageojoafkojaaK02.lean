/- Rows told apart by their blocks' types; one thing behind a row. -/
import Derived.Test.YtcageojoafkojaaK01
import Derived.Laws.AppendOwnNone
import Derived.Deep.CutRange
import Derived.Deep.CutBlock
import Derived.StillTailTactics
import Derived.Outline
import Derived.Deep.RegionHeld3
import Derived.Deep.RegionLaw
import Derived.OwnWalk
import Derived.Deep.LoopGhost
import Derived.Laws.RangeAny
import Derived.Laws.OwnMore
import Derived.Deep.QuietTactic
import Derived.BigQuiet
import Derived.DeepKeys4
import Derived.Maps.OwnSet
import Derived.Maps.OwnOps
import Derived.Maps.Views
import Derived.RangeFuncNested
import Derived.RangeFuncBound
import Derived.RangeFuncCalls
import Derived.RangeFuncLeaves
import Derived.Shelf.Abstract
import Derived.Shelf.RegionOpen
import Derived.WalkKit
import Derived.OwnWalkIn
import Derived.TacticsInMore
import Derived.LoopNIn
import Derived.LoopIn
namespace Go.Proofs.Ytcageojoafkojaa
open Go.RowKit Go.WideElems
theorem oneb (w : World) (o : Obj) : Below w.heap.size w (w.alloc o) := (Below.refl _ _).alloc (Nat.le_refl _) _
theorem addr_at (b o j : Nat) : (⟨b, o, none⟩ : Addr).add j = ⟨b, o + j, none⟩ := by unfold Addr.add; split <;> simp_all
/-- A block of things of a type. -/
def TyB (w : World) (b : Nat) (T : TypeId) : Prop := ∃ cur fz, w.heap[b]? = some (.cells cur T fz)
theorem TyB.lt {w : World} {b : Nat} {T : TypeId} (h : TyB w b T) : b < w.heap.size := by obtain ⟨_, _, h⟩ := h; exact (Array.getElem?_eq_some_iff.1 h).1
theorem TyB.ne {w : World} {b c : Nat} {T U : TypeId} (h : TyB w b T) (k : TyB w c U) (hn : T ≠ U) : b ≠ c := by
  rintro rfl
  obtain ⟨_, _, h⟩ := h
  obtain ⟨_, _, k⟩ := k
  rw [h] at k
  cases k
  exact hn rfl
theorem Bk.tyb {w : World} {g t : Nat} {l : List Value} (h : Bk w g t l) : TyB w g t := ⟨_, _, h⟩
theorem TyB.below {w w' : World} {b : Nat} {T : TypeId} (h : TyB w b T) (hb : Below w.heap.size w w') : TyB w' b T := by
  obtain ⟨c, f, h⟩ := h
  exact ⟨c, f, (hb.block b (Array.getElem?_eq_some_iff.1 h).1).trans h⟩
/-- A slice that reads so, in a block of a type. -/
structure TRd (w : World) (T : TypeId) (z n : Nat) (A : Option Addr) (xs : List Value) : Prop where
  rd : Rd w z n A xs
  ty : n = 0 ∨ ∃ a, A = some a ∧ TyB w a.block T
theorem TRd.nil (w : World) (T : TypeId) (z : Nat) : TRd w T z 0 none [] := ⟨Rd.nil _ _ _, .inl rfl⟩
theorem TRd.below {w w' : World} {T : TypeId} {z n : Nat} {A : Option Addr} {xs : List Value} (h : TRd w T z n A xs) (hb : Below w.heap.size w w') : TRd w' T z n A xs :=
  ⟨h.rd.below hb, h.ty.imp id fun ⟨a, e, k⟩ => ⟨a, e, k.below hb⟩⟩
theorem TRd.grown {w w' : World} {T : TypeId} {z n g : Nat} {A : Option Addr} {xs : List Value} (h : TRd w T z n A xs) (hg : w.grownBy w' (some g)) (ho : Off n A g) : TRd w' T z n A xs :=
  ⟨h.rd.grownO ho hg, by
    rcases h.ty with e | ⟨a, e, c, f, k⟩
    · exact .inl e
    · rcases ho with e2 | ho
      · exact .inl e2
      · exact .inr ⟨a, e, c, f, (hg.block _ (Array.getElem?_eq_some_iff.1 k).1 (fun e2 => ho a e (Option.some.inj e2))).trans k⟩⟩
theorem TRd.grownN {w w' : World} {T : TypeId} {z n : Nat} {A : Option Addr} {xs : List Value} (h : TRd w T z n A xs) (hg : w.grownBy w' none) : TRd w' T z n A xs :=
  h.below ⟨hg.os, hg.tape, hg.output, hg.size, fun i hi => hg.block i hi (by simp)⟩
theorem TRd.off {w : World} {T U : TypeId} {z n g : Nat} {A : Option Addr} {xs : List Value} (h : TRd w T z n A xs) (k : TyB w g U) (hn : T ≠ U) : Off n A g :=
  h.ty.imp id fun ⟨a, e, c⟩ b hb => by cases e.symm.trans hb; exact c.ne k hn
/-- What a call owns: where it lies, of which type. -/
theorem own_typed {w : World} {base : Nat} {e : TypeId} {z n : Nat} {v : Value} {xs : List Value} (h : w.ownsRow base e z v n xs) :
    ∃ A c, v = .slice A n c ∧ n ≤ c ∧ TRd w e z n A xs ∧ (∀ g, v.ownBlock = some g → TyB w g e) ∧ (A = none → c = 0) := by
  rcases h.2 with ⟨rfl, rfl⟩ | ⟨g, cap, cur, rfl, hb, hh, hn, hm, hs, rfl⟩
  · exact ⟨none, 0, rfl, Nat.le_refl _, ⟨⟨h.1, .inl rfl⟩, .inl rfl⟩, fun g hg => (by cases hg), fun _ => rfl⟩
  · refine ⟨_, cap, rfl, hn, ⟨⟨h.1, .inr ⟨g, 0, rfl, (Array.getElem?_eq_some_iff.1 hh).1, fun j u hu => ?_⟩⟩, .inr ⟨_, rfl, _, _, hh⟩⟩, fun g' hg' => ?_, fun e => by cases e⟩
    · have := h.cells (g := g) rfl j u hu
      rw [← this, addr_at]
    · cases hg'
      exact ⟨_, _, hh⟩
theorem own_keep {w w' : World} {base : Nat} {e : TypeId} {z n g : Nat} {v : Value} {xs : List Value} (h : w.ownsRow base e z v n xs) (hg : w.grownBy w' (some g)) (hne : ∀ b, v.ownBlock = some b → b ≠ g) : w'.ownsRow base e z v n xs := by
  refine ⟨h.1, h.2.imp id ?_⟩
  rintro ⟨b, cap, cur, e, h1, h2, h3⟩
  refine ⟨b, cap, cur, e, h1, ?_, h3⟩
  rw [hg.block b (Array.getElem?_eq_some_iff.1 h2).1 (fun q => hne b (by subst e; rfl) (Option.some.inj q))]
  exact h2
theorem own_keepN {w w' : World} {base : Nat} {e : TypeId} {z n : Nat} {v : Value} {xs : List Value} (h : w.ownsRow base e z v n xs) (hg : Below w.heap.size w w') : w'.ownsRow base e z v n xs := own_below h hg
/-- One thing behind a row that the call owns. -/
theorem append_one {w : World} {ops : Array Oper} {rest : List Oper} {o : Oper} {a : Act} {Q : Exit → Act → World → Prop} (hgd : o.guard = none) (s x : Operand) (t e : TypeId)
    (ho : o.op = .call { callee := .builtin .append, args := #[s, x], argTypes := #[t, t] }) (zero : Value) (size bytes : Nat)
    (hinfo : (Try.prog.info? e).map (fun i => (i.zero, i.size, i.bytes)) = some (some zero, size, bytes)) (ht : Try.prog.underlying t = some (.slice e)) (hzs : zero.cells.size = size) (hsz : 0 < size) (hby : bytes ≤ 64)
    (base : Nat) (v : Value) (n : Nat) (xs : List Value) (hs : a.eval s = v) (hown : w.ownsRow base e size v n xs) (g : Nat) (news : List Value) (hx : a.eval x = .slice (some ⟨g, 0, none⟩) 1 1) (hl : news.length = size) (hB : Bk w g e news) (h1 : ∀ u ∈ news, u.oneCell' = true) (hn : n ≤ 100000) (hbase : base ≤ w.heap.size)
    (h : ∀ v' w', w'.ownsRow base e size v' (n + 1) (xs ++ news) → w.grownBy w' v.ownBlock → (v'.ownBlock = v.ownBlock ∨ v'.ownBlock = some w.heap.size) → wpList Try.prog ops Q rest (a.put o.dst v') w') : wpList Try.prog ops Q (o :: rest) a w := by
  obtain ⟨i0, hi, hz0, hz1, hz2⟩ := info_parts hinfo
  refine wpList_append_own_at w hgd s x t ho base e i0 zero size bytes ht hi hz0 hz1 hz2 hzs hsz v n xs hs hown ⟨g, 0, none⟩ 1 1 news hx (by omega) (fun j u hu => by rw [addr_at, Nat.zero_add]; exact hB.cell j hu) h1 (by unfold maxLen; omega) ?_ hbase (fun v' w' h1 h2 _ h3 => h v' w' h1 h2 h3)
  have : (n + 1) * bytes ≤ 100001 * 64 := Nat.mul_le_mul (by omega) hby
  omega
/-- What a row's append leaves of another row, by the types of their blocks. -/
theorem TRd.appended {w w' : World} {T U : TypeId} {z n : Nat} {A : Option Addr} {xs : List Value} {v : Value} (h : TRd w T z n A xs) (hg : w.grownBy w' v.ownBlock) (hv : ∀ g, v.ownBlock = some g → TyB w g U) (hn : T ≠ U) : TRd w' T z n A xs := by
  cases hb : v.ownBlock with
  | none => rw [hb] at hg; exact h.grownN hg
  | some g => rw [hb] at hg; exact h.grown hg (h.off (hv g hb) hn)
theorem own_appended {w w' : World} {base : Nat} {e U : TypeId} {z n : Nat} {v u : Value} {xs : List Value} (h : w.ownsRow base e z u n xs) (hg : w.grownBy w' v.ownBlock) (hv : ∀ g, v.ownBlock = some g → TyB w g U) (hn : e ≠ U) : w'.ownsRow base e z u n xs := by
  cases hb : v.ownBlock with
  | none => rw [hb] at hg; exact own_below h ⟨hg.os, hg.tape, hg.output, hg.size, fun i hi => hg.block i hi (by simp)⟩
  | some g =>
    rw [hb] at hg
    obtain ⟨_, _, _, _, _, hty, _⟩ := own_typed h
    exact own_keep h hg (fun b hb2 => (hty b hb2).ne (hv g hb) hn)
theorem Bk.appended {w w' : World} {g t : Nat} {l : List Value} {U : TypeId} {v : Value} (h : Bk w g t l) (hg : w.grownBy w' v.ownBlock) (hv : ∀ b, v.ownBlock = some b → TyB w b U) (hn : t ≠ U) : Bk w' g t l := by
  refine h.grown hg ?_
  cases hb : v.ownBlock with
  | none => simp
  | some b => intro e; exact (h.tyb.ne (hv b hb) hn) (Option.some.inj e)
end Go.Proofs.Ytcageojoafkojaa
namespace Go.Proofs.Ytcageojoafkojaa
open Go.RowKit
/-- The types of a policy's parts: the policy, its rules, conditions, paths, ports; the cells of a condition, a path, a port; the cells ahead. -/
structure Kd where
  tP : TypeId
  tR : TypeId
  tC : TypeId
  tB : TypeId
  tQ : TypeId
  fC : CondM → List Value
  fB : Bs × Nat → List Value
  fQ : Nat × Nat → List Value
  hC : ∀ x, (fC x).length = 4
  hB : ∀ x, (fB x).length = 2
  hQ : ∀ x, (fQ x).length = 2
  n1 : tC ≠ tR
  n2 : tB ≠ tR
  n3 : tQ ≠ tR
  n4 : tP ≠ tR
  n5 : tC ≠ tB
  n6 : tR ≠ tB
  n7 : tQ ≠ tB
  n8 : tP ≠ tB
  n9 : tC ≠ tQ
  n10 : tR ≠ tQ
  n11 : tB ≠ tQ
  n12 : tP ≠ tQ
  n13 : tR ≠ tP
  n14 : tC ≠ tP
  n15 : tB ≠ tP
  n16 : tQ ≠ tP
structure RB (K : Kd) (w wr : World) (B B1 B2 : Nat) (z1 : List Value) (v0 v1 v2 v3 v4 v5 : Value) (rs : List RuleV) (pt : List (Bs × Nat)) (po : List (Nat × Nat)) : Prop where
  out : Bk wr B2 K.tP [v0, v1, v2, v3, v4, v5]
  res : Bk wr B1 K.tP z1
  r : wr.ownsRow B K.tR 3 v2 rs.length (rs.flatMap RuleV.cells)
  c : ∀ x ∈ rs, TRd wr K.tC 4 x.m.conds.length x.A (x.m.conds.flatMap K.fC)
  p : wr.ownsRow B K.tB 2 v4 pt.length (pt.flatMap K.fB)
  q : wr.ownsRow B K.tQ 2 v5 po.length (po.flatMap K.fQ)
  bel : Below w.heap.size w wr
  hB : w.heap.size ≤ B ∧ B ≤ wr.heap.size
  hB2 : w.heap.size ≤ B2
  hB1 : w.heap.size ≤ B1 ∧ B1 ≠ B2
section
variable {K : Kd} {w wr w' : World} {B B1 B2 : Nat} {z1 : List Value} {v0 v1 v2 v3 v4 v5 v' : Value} {rs : List RuleV} {pt : List (Bs × Nat)} {po : List (Nat × Nat)}
theorem RB.kept (h : RB K w wr B B1 B2 z1 v0 v1 v2 v3 v4 v5 rs pt po) (hb : Below wr.heap.size wr w') : RB K w w' B B1 B2 z1 v0 v1 v2 v3 v4 v5 rs pt po :=
  ⟨h.out.kept hb, h.res.kept hb, own_below h.r hb, fun x hx => (h.c x hx).below hb, own_below h.p hb, own_below h.q hb, h.bel.trans (hb.mono h.bel.size), ⟨h.hB.1, Nat.le_trans h.hB.2 hb.size⟩, h.hB2, h.hB1⟩
end
/-- A rule that is being put together: its conditions' row, in a block of its own behind a place. -/
structure XB (K : Kd) (ws wx : World) (xb : Nat) (a0 a1 cv : Value) (l : List CondM) : Prop where
  x : Bk wx xb K.tR [a0, a1, cv]
  own : wx.ownsRow ws.heap.size K.tC 4 cv l.length (l.flatMap K.fC)
  grow : ws.grownBy wx (some xb)
  lt : xb < ws.heap.size
section
variable {K : Kd} {ws wx w' : World} {xb : Nat} {a0 a1 cv v' : Value} {l : List CondM}
theorem XB.kept (h : XB K ws wx xb a0 a1 cv l) (hb : Below wx.heap.size wx w') : XB K ws w' xb a0 a1 cv l :=
  ⟨h.x.kept hb, own_below h.own hb, grown_trans h.grow ⟨hb.os, hb.tape, hb.output, hb.size, fun i hi _ => hb.block i hi⟩ (fun k (hk : none = some k) => by cases hk), h.lt⟩
theorem XB.add (h : XB K ws wx xb a0 a1 cv l) (c : CondM) (hown : w'.ownsRow ws.heap.size K.tC 4 v' (l.length + 1) (l.flatMap K.fC ++ K.fC c)) (hg : wx.grownBy w' cv.ownBlock) : XB K ws (w'.setCell ⟨xb, 2, none⟩ v') xb a0 a1 v' (l ++ [c]) := by
  obtain ⟨_, _, _, _, _, hty, _⟩ := own_typed h.own
  obtain ⟨_, _, _, _, _, hty', _⟩ := own_typed hown
  have ho := h.x.appended hg hty K.n1.symm
  have hs := only_set w' xb 2 v'
  refine ⟨ho.set 2 v', ?_, ?_, h.lt⟩
  · rw [List.length_append, List.flatMap_append]
    simp only [List.length_singleton, List.flatMap_cons, List.flatMap_nil, List.append_nil]
    exact own_keep hown hs (fun b hb => (hty' b hb).ne ho.tyb K.n1)
  · exact grown_trans (grown_trans h.grow hg (fun k hk => .inr (h.own.lt k hk).1)) hs (fun k hk => .inl hk)
theorem XB.bel {w0 : World} (h : XB K ws wx xb a0 a1 cv l) (hw : Below w0.heap.size w0 ws) (hx : w0.heap.size ≤ xb) : Below w0.heap.size w0 wx := hw.grown h.grow hw.size (fun g hg => by cases hg; exact hx)
end
end Go.Proofs.Ytcageojoafkojaa
/- What jumps lean on. -/
namespace Go.Proofs.Ytcageojoafkojaa.Ju
/-- A part of code. -/
structure PtM where
  kd : Nat
  tQ : Int
  el : Int
  i : Ins
def PtM.cells (p : PtM) : List Value := [.int .u8 p.kd, .int .i64 p.tQ, .int .i64 p.el, .int .u16 p.i.c, .int .u8 p.i.t, .int .u8 p.i.f, .int .u32 p.i.k]
structure PtM.ok (p : PtM) : Prop where
  kd : p.kd < 256
  to1 : -9223372036854775808 ≤ p.tQ
  to2 : p.tQ ≤ 9223372036854775807
  el1 : -9223372036854775808 ≤ p.el
  el2 : p.el ≤ 9223372036854775807
  i : p.i.ok
/-- Names, and how many instructions stand behind them. -/
def lk {β : Type} (n : Int) (b : List (Int × β)) : Option β := (b.find? fun e => decide (e.1 = n)).map Prod.snd
theorem lk_cons {β : Type} (n m : Int) (v : β) (b : List (Int × β)) : lk n ((m, v) :: b) = if m = n then some v else lk n b := by
  unfold lk
  rw [List.find?_cons]
  by_cases h : m = n <;> simp [h]
structure CdM where
  ins : List Ins
  bh : List (Int × Nat)
def skipI (n : Nat) : Ins := ⟨5, 0, 0, n⟩
/-- How far a name is, and a Skip tQ it, if that is far. -/
def reachF (l : List Ins) (b : Nat) : Nat × List Ins := if l.length - b ≤ 253 then (l.length - b, l) else (0, skipI (l.length - b) :: l)
def cmpF (l : List Ins) (i : Ins) (bt bf : Nat) : List Ins :=
  ⟨i.c, (reachF (reachF l bf).2 bt).1, (reachF l bf).1 + ((reachF (reachF l bf).2 bt).2.length - (reachF l bf).2.length), i.k⟩ :: (reachF (reachF l bf).2 bt).2
/-- A part laid ahead of code: its error, the code. -/
def layF (p : PtM) (c : CdM) : Nat × CdM :=
  if p.kd = 1 then (match lk p.tQ c.bh with | some _ => (206, c) | none => (0, ⟨c.ins, (p.tQ, c.ins.length) :: c.bh⟩))
  else if p.kd = 2 then (if p.i.c % 8 = 5 then (210, c) else (0, ⟨p.i :: c.ins, c.bh⟩))
  else if p.kd = 3 then (if p.i.c % 8 ≠ 5 ∨ p.i.c = 5 then (210, c) else match lk p.tQ c.bh, lk p.el c.bh with
    | some bt, some bf => (0, ⟨cmpF c.ins p.i bt bf, c.bh⟩)
    | _, _ => (207, c))
  else if p.kd = 4 then (match lk p.tQ c.bh with | some b => (0, ⟨skipI (c.ins.length - b) :: c.ins, c.bh⟩) | none => (207, c))
  else (210, c)
def stepF (p : PtM) (r : Nat × CdM) : Nat × CdM :=
  if r.1 ≠ 0 then r else if (layF p r.2).1 ≠ 0 then layF p r.2 else if 4096 < (layF p r.2).2.ins.length then (205, (layF p r.2).2) else layF p r.2
/-- Make: the last first. -/
def makeF (l : List PtM) : Nat × CdM := l.foldr stepF (0, ⟨[], []⟩)
theorem makeF_cons (p : PtM) (t : List PtM) : makeF (p :: t) = stepF p (makeF t) := rfl
/-- Once there is an error it stays. -/
theorem makeF_bad {l : List PtM} : ∀ {k : Nat}, (makeF (l.drop k)).1 ≠ 0 → makeF l = makeF (l.drop k) := by
  induction l with
  | nil => intro k h; simp
  | cons p t ih =>
    intro k h
    cases k with
    | zero => rfl
    | succ k =>
      rw [List.drop_succ_cons] at h ⊢
      have e := ih h
      rw [makeF_cons, e]
      unfold stepF
      rw [if_pos h]
/-- The names behind are places within the code. -/
def Bnd (c : CdM) : Prop := ∀ n v, lk n c.bh = some v → v ≤ c.ins.length
theorem reach_len (l : List Ins) (b : Nat) : (reachF l b).2.length ≤ l.length + 1 ∧ l.length ≤ (reachF l b).2.length ∧ (reachF l b).1 ≤ 253 := by
  unfold reachF; split <;> simp <;> omega
theorem lay_bnd {p : PtM} {c : CdM} (h : Bnd c) : Bnd (layF p c).2 := by
  unfold layF
  split
  · split
    · exact h
    · intro n v hv
      rw [lk_cons] at hv
      split at hv
      · cases hv; exact Nat.le_refl _
      · exact h n v hv
  · split
    · split
      · exact h
      · intro n v hv; have := h n v hv; simp only [List.length_cons]; omega
    · split
      · split
        · exact h
        · split
          · intro n v hv
            have := h n v hv
            rename_i bt bf _ _
            have h1 := reach_len c.ins bf
            have h2 := reach_len (reachF c.ins bf).2 bt
            simp only [cmpF, List.length_cons]; omega
          · exact h
      · split
        · split
          · intro n v hv; have := h n v hv; simp only [List.length_cons]; omega
          · exact h
        · exact h
theorem step_bnd {p : PtM} {r : Nat × CdM} (h : Bnd r.2) : Bnd (stepF p r).2 := by
  unfold stepF
  split
  · exact h
  · split
    · exact lay_bnd h
    · split <;> exact lay_bnd h
theorem make_bnd : ∀ (l : List PtM), Bnd (makeF l).2
  | [] => fun n v h => by simp [makeF, lk] at h
  | _ :: t => step_bnd (make_bnd t)
theorem make_len : ∀ (l : List PtM), (makeF l).1 = 0 → (makeF l).2.ins.length ≤ 4096
  | [], _ => by simp [makeF]
  | p :: t, h => by
    rw [makeF_cons] at h ⊢
    unfold stepF at h ⊢
    split at h
    · rename_i h2; exact absurd h h2
    · rename_i h0
      rw [if_neg h0]
      split at h
      · rename_i h2; exact absurd h h2
      · rename_i h1
        rw [if_neg h1]
        split at h
        · cases h
        · rename_i h3; rw [if_neg h3]; omega
end Go.Proofs.Ytcageojoafkojaa.Ju
namespace Go.Proofs.Ytcageojoafkojaa.Ju
open Go.RowKit Go.Maps Go.WideMaps Go.WideElems Go.ChangeMaps
def mD (o : List (Int × Int)) : DataW Unit := o.foldr (fun p d => d.put (.int .i64 p.1) (.lit (.int .i64 p.2))) (.map [])
theorem mD_cons (n v : Int) (o : List (Int × Int)) : mD ((n, v) :: o) = (mD o).put (.int .i64 n) (.lit (.int .i64 v)) := rfl
theorem mD_map : ∀ o : List (Int × Int), IsMap (mD o)
  | [] => ⟨[], rfl⟩
  | _ :: o => (mD_map o).put _ _
theorem key_ne {n m : Int} (h : m ≠ n) : Lit.int .i64 n ≠ Lit.int .i64 m := fun e => by injection e with _ e; exact h e.symm
theorem mD_has : ∀ (o : List (Int × Int)) (n : Int), has (mD o) (.int .i64 n) = (lk n o).isSome
  | [], n => rfl
  | (m, v) :: o, n => by
    rw [mD_cons, lk_cons]
    by_cases h : m = n
    · subst h; rw [if_pos rfl, has_put_same (mD_map _) (show WideAt.IsKeyLit (Lit.int .i64 m) from trivial)]; rfl
    · rw [if_neg h, has_put_other (key_ne h)]; exact mD_has o n
theorem mD_at : ∀ (o : List (Int × Int)) (n : Int) (z : DataW Unit), (mD o).atKey (.int .i64 n) z = match lk n o with | some v => .lit (.int .i64 v) | none => z
  | [], n, z => rfl
  | (m, v) :: o, n, z => by
    rw [mD_cons, lk_cons]
    by_cases h : m = n
    · subst h; rw [if_pos rfl, atKey_put_same (mD_map _) (show WideAt.IsKeyLit (Lit.int .i64 m) from trivial)]
    · rw [if_neg h, atKey_put_other (key_ne h)]; exact mD_at o n z
/-- How many names there are. -/
def cnt : List (Int × Int) → Nat
  | [] => 0
  | (n, _) :: o => if (lk n o).isSome = true then cnt o else cnt o + 1
theorem cnt_le : ∀ o : List (Int × Int), cnt o ≤ o.length
  | [] => Nat.le_refl _
  | (n, _) :: o => by unfold cnt; have := cnt_le o; split <;> simp <;> omega
theorem wfI {a : Int} (h1 : -9223372036854775808 ≤ a) (h2 : a ≤ 9223372036854775807) : (Lit.int .i64 a).wf = true := by
  show (decide ((-9223372036854775808 : Int) ≤ a) && decide (a ≤ (9223372036854775807 : Int))) = true
  rw [decide_eq_true (by omega), decide_eq_true (by omega)]; rfl
theorem nameKeyed : Keyed Try.prog 115 := int_keyed Try.underlying115
theorem om_lt {w : World} {P : Program} {T : TypeId} {R : Value → Option (DataW Unit × List MemPlace)} {b n : Nat} {D : DataW Unit} (h : w.ownsMap P T R b n D) : b < w.heap.size := by obtain ⟨es, c, h1, _⟩ := h; exact (Array.getElem?_eq_some_iff.1 h1).1
theorem om_block {w w' : World} {P : Program} {T : TypeId} {R : Value → Option (DataW Unit × List MemPlace)} {b n : Nat} {D : DataW Unit} (h : w.ownsMap P T R b n D) (hb : w'.heap[b]? = w.heap[b]?) : w'.ownsMap P T R b n D := by obtain ⟨es, c, h1, h2⟩ := h; exact ⟨es, c, hb.trans h1, h2⟩
/-- A map from names tQ numbers, in block m. -/
def NMap (w : World) (e : TypeId) (m : Nat) (o : List (Int × Int)) : Prop := w.ownsMap Try.prog 115 (plainElem Try.prog e) m o.length (mD o)
theorem NMap.lt {w : World} {e : TypeId} {m : Nat} {o : List (Int × Int)} (h : NMap w e m o) : m < w.heap.size := om_lt h
theorem NMap.block {w w' : World} {e : TypeId} {m : Nat} {o : List (Int × Int)} (h : NMap w e m o) (hb : w'.heap[m]? = w.heap[m]?) : NMap w' e m o := om_block h hb
theorem NMap.below {w w' : World} {e : TypeId} {m : Nat} {o : List (Int × Int)} (h : NMap w e m o) (hb : Below w.heap.size w w') : NMap w' e m o := om_block h (hb.block _ h.lt)
theorem NMap.grown {w w' : World} {e : TypeId} {m : Nat} {o : List (Int × Int)} {r : Option Nat} (h : NMap w e m o) (hb : w.grownBy w' r) (hr : some m ≠ r) : NMap w' e m o := om_block h (hb.block _ h.lt hr)
theorem NMap.made (w : World) (e : TypeId) : NMap (w.alloc (.map #[] 0)) e w.heap.size [] := World.ownsMap_made (H := Unit) w Try.prog 115 (plainElem Try.prog e)
theorem NMap.put {w : World} {e : TypeId} {m : Nat} {o : List (Int × Int)} {n v : Int} (h : w.ownsMap Try.prog 115 (plainElem Try.prog e) m (o.length + 1) ((mD o).put (.int .i64 n) (.lit (.int .i64 v)))) : NMap w e m ((n, v) :: o) := h
/-! Parts in memory. -/
theorem infoPart : (Try.prog.info? 125).map (fun i => (i.zero, i.size, i.bytes)) = some (some (.agg #[.int .u8 0, .int .i64 0, .int .i64 0, .int .u16 0, .int .u8 0, .int .u8 0, .int .u32 0]), 7, 32) := by kernel_rfl
theorem pt_len (p : PtM) : p.cells.length = 7 := rfl
theorem pt_one (p : PtM) : ∀ u ∈ p.cells, u.oneCell' = true := fun u hu => by
  simp only [PtM.cells, List.mem_cons, List.not_mem_nil, or_false] at hu
  rcases hu with rfl | rfl | rfl | rfl | rfl | rfl | rfl <;> rfl
theorem seven_cells {w : World} {b o k : Nat} {l : List PtM} {x : PtM} (hc : ∀ k x, l[k]? = some x → ∀ j v, (PtM.cells x)[j]? = some v → w.cell? ⟨b, o + (k * 7 + j), none⟩ = some v) (h : l[k]? = some x) :
    w.cell? ⟨b, o + k * 7, none⟩ = some (.int .u8 x.kd) ∧ w.cell? ⟨b, o + k * 7 + 1, none⟩ = some (.int .i64 x.tQ) ∧ w.cell? ⟨b, o + k * 7 + 2, none⟩ = some (.int .i64 x.el) ∧ w.cell? ⟨b, o + k * 7 + 3, none⟩ = some (.int .u16 x.i.c) ∧ w.cell? ⟨b, o + k * 7 + 4, none⟩ = some (.int .u8 x.i.t) ∧ w.cell? ⟨b, o + k * 7 + 5, none⟩ = some (.int .u8 x.i.f) ∧ w.cell? ⟨b, o + k * 7 + 6, none⟩ = some (.int .u32 x.i.k) := by
  have hj := fun j v hv => hc k x h j v hv
  simp only [← Nat.add_assoc] at hj
  exact ⟨hj 0 _ rfl, hj 1 _ rfl, hj 2 _ rfl, hj 3 _ rfl, hj 4 _ rfl, hj 5 _ rfl, hj 6 _ rfl⟩
theorem op_append {o : Oper} {a : Act} {w : World} {K : Act → World → Prop} {Q : Exit → Act → World → Prop} (s x : Operand) (t : TypeId) (ho : o.op = .call { callee := .builtin .append, args := #[s, x], argTypes := #[t, t] })
    (v y v' : Value) (w' : World) (hs : a.eval s = v) (hx : a.eval x = y) (hr : (Builtin.append_ #[t, t] o.type #[v, y]).run Try.prog w = .ok v' w') (h : K (a.put o.dst v') w') : Oper.wp Try.prog o a w K Q := by
  unfold Oper.wp execOp
  simp only [ho, resolve, invoke, builtin, Sem.run_bind, Sem.run_pure, Result.andThen_ok, List.map_toArray, List.map_cons, List.map_nil, hs, hx, hr]
  exact h
end Go.Proofs.Ytcageojoafkojaa.Ju
namespace Go.Proofs.Ytcageojoafkojaa.Ju
open Go.RowKit Go.Shelf
attribute [local go_sem] Oper.semAt_some
/-- A place of a list and the part there. -/
abbrev Pa (l : List PtM) := { x : Nat × PtM // l[x.1]? = some x.2 }
def Pa.pt {l : List PtM} (x : Pa l) : PtM := x.1.2
def handed {l : List PtM} (x : Pa l) : Array Value := #[.int .i64 (x.1.1 : Int), .agg #[.int .u8 x.1.2.kd, .int .i64 x.1.2.tQ, .int .i64 x.1.2.el, .int .u16 x.1.2.i.c, .int .u8 x.1.2.i.t, .int .u8 x.1.2.i.f, .int .u32 x.1.2.i.k]]
/-- What a round keeps: what lay below, and the box. -/
structure KB (n₀ Bs : Nat) (W W' : World) : Prop where
  bel : Below n₀ W W'
  box : W'.heap[Bs]? = W.heap[Bs]?
theorem KB.refl (n₀ Bs : Nat) (W : World) : KB n₀ Bs W W := ⟨Below.refl _ _, rfl⟩
theorem KB.trans {n₀ Bs : Nat} {A B C : World} (h : KB n₀ Bs A B) (k : KB n₀ Bs B C) : KB n₀ Bs A C := ⟨h.bel.trans k.bel, k.box.trans h.box⟩
theorem kb_put {n₀ Bs : Nat} {w : World} (hn : n₀ ≤ w.heap.size) (hB : Bs < w.heap.size) (W : World) (l : Nat) (o o' : Obj) (hl : w.heap.size ≤ l) (h : W.heap[l]? = some o) (h2 : o.isCells = false) (h3 : o.isWalk = false) : KB n₀ Bs W (W.putObj l o') :=
  ⟨belowK_b hn W l o o' hl h h2 h3, (grownBy_putObj' W l o').block Bs (by have := (Array.getElem?_eq_some_iff.1 h).1; omega) (by intro e; cases e; omega)⟩
theorem KB.cell {n₀ Bs : Nat} {W W' : World} (h : KB n₀ Bs W W') : W'.cell? ⟨Bs, 0, none⟩ = W.cell? ⟨Bs, 0, none⟩ := by unfold World.cell?; rw [h.box]
theorem rev_drop {l : List PtM} {q : Nat} {x : PtM} (h : l[q]? = some x) : (l.drop q).reverse = (l.drop (q + 1)).reverse ++ [x] := by
  obtain ⟨h1, h2⟩ := List.getElem?_eq_some_iff.1 h
  rw [List.drop_eq_getElem_cons h1, h2, List.reverse_cons]
set_option maxRecDepth 100000 in
set_option maxHeartbeats 2000000 in
theorem back1 (m : Nat) (hm : 1 ≤ m) (L Bs n₀ n cap : Nat) (A : Option Addr) (hn : n ≤ 65536) (l : List PtM) (hl : l.length = n) (J Jx : List (Pa l) → World → Prop)
    (hY : ∀ pre x W, J pre W → pre.length < n → YieldAt Fence.wide (m - 1) Try.prog L (handed x) W fun e W' =>
      (e = .returned (.bool true) ∧ J (pre ++ [x]) W' ∧ KB n₀ Bs W W') ∨ (e = .returned (.bool false) ∧ Jx (pre ++ [x]) W'))
    (W : World) (hBs : W.cell? ⟨Bs, 0, none⟩ = some (.slice A n cap))
    (hR : ∀ W', Below n₀ W W' → Rd W' 7 n A (l.flatMap PtM.cells))
    (h0 : J [] W) :
    CallsIn Fence.wide m Try.prog 75 #[.func (.yield L) #[] #[], .pointer (some ⟨Bs, 0, none⟩)] W fun e W' => (∃ v, e = .returned v) ∧
      ((∃ ys : List (Pa l), ys.map Pa.pt = l.reverse ∧ J ys W') ∨ (∃ pre : List (Pa l), (∃ q, pre.map Pa.pt = (l.drop q).reverse) ∧ Jx pre W')) := by
  have HR0 := Lib.hid hR
  clear hR
  refine callsIn_of_wp Try.func75 rfl trivial ?_ rfl
  simp only [Try.ntmps75, List.size_toArray, List.length_cons, List.length_nil, Nat.reduceAdd, Nat.reduceSub, Array.replicate_succ, Array.replicate_zero, List.push_toArray, List.append_toArray, List.nil_append, List.cons_append]
  gi_wp2
  gi_loopw [3] (fun i wr => ∃ (p : Nat) (z : Int) (pre : List (Pa l)), p ≤ n ∧ z + 1 = p ∧ i = .int .i64 z ∧ Hid (J pre wr) ∧ Hid (pre.map Pa.pt = (l.drop p).reverse) ∧ Hid (KB n₀ Bs W wr))
    (fun i _ => (intOf i + 1).toNat)
  case atStart => exact ⟨n, (n : Int) - 1, [], Nat.le_refl _, by omega, rfl, h0, Lib.hid (by rw [List.drop_of_length_le (by omega)]; rfl), KB.refl _ _ _⟩
  case round =>
    obtain ⟨p, z, pre, hp, hz, rfl, HJ, HP, Hnx⟩ := hrel
    have hsl : wr.cell? ⟨Bs, 0, none⟩ = some (.slice A n cap) := Hnx.out.cell.trans hBs
    by_cases hlt : 0 < p
    · obtain ⟨q, rfl⟩ : ∃ q, p = q + 1 := ⟨p - 1, by omega⟩
      obtain rfl : z = (q : Int) := by omega
      have hq : q < n := by omega
      obtain ⟨x, hx⟩ : ∃ x, l[q]? = some x := ⟨_, List.getElem?_eq_getElem (by omega)⟩
      obtain ⟨b, o, hA, hbl, hcell⟩ := (HR0.out wr Hnx.out.bel).one (fun _ => rfl) (by omega) (by omega)
      obtain ⟨e0, e1, e2, e3, e4, e5, e6⟩ := seven_cells hcell hx
      subst hA
      have hprl : pre.length < n := by
        have := congrArg List.length HP.out
        simp at this; omega
      have HP2 := Lib.hid (show (pre ++ [(⟨(q, x), hx⟩ : Pa l)]).map Pa.pt = (l.drop q).reverse by rw [List.map_append, HP.out, rev_drop hx]; rfl)
      obtain ⟨fn, tmps, assign, body, hy, hR⟩ := hY _ ⟨(q, x), hx⟩ wr HJ.out hprl
      have HR := Lib.hid hR
      dsimp only [handed] at hy
      clear hR hz hcell hprl
      gi_wp2
      refine HR.out.mono ?_
      rintro e W3 (⟨rfl, hJ3, hk3⟩ | ⟨rfl, hJx3⟩)
      · have HE := Lib.hid hJ3
        have HB := Lib.hid (Hnx.out.trans hk3)
        clear hJ3 hk3
        gi_wp2
        go_roundw
        case rel => exact ⟨q, (q : Int) - 1, _, by omega, by omega, by go_num, HE, HP2, HB⟩
        case measure => simp [intOf]
      · gi_wp2
        refine bodyPost_ret (results_none rfl _ _ _) rfl ?_
        exact ⟨⟨_, rfl⟩, .inr ⟨_, ⟨_, HP2.out⟩, hJx3⟩⟩
    · obtain rfl : p = 0 := by omega
      obtain rfl : z = -1 := by omega
      gi_wp2
      go_end0
      exact ⟨⟨_, rfl⟩, .inl ⟨_, by rw [HP.out, List.drop_zero], HJ.out⟩⟩
set_option maxHeartbeats 1000000 in
/-- The slice is boxed; the function value captures the box. -/
theorem backward_in (m : Nat) (A : Option Addr) (n cap : Nat) (w : World) :
    CallsIn Fence.wide m Try.prog 48 #[.slice A n cap] w fun e w' => e = .returned (.func (.func 75) #[] #[.pointer (some ⟨w.heap.size, 0, none⟩)]) ∧ w' = w.alloc (.cells #[.slice A n cap] 65) := by
  refine callsIn_of_wp Try.func48 rfl trivial ?_ rfl
  simp only [Try.ntmps48, List.size_toArray, List.length_cons, List.length_nil, Nat.reduceAdd, Nat.reduceSub, Array.replicate_succ, Array.replicate_zero, List.push_toArray, List.append_toArray, List.nil_append, List.cons_append]
  gi_wp2
  go_ret
  exact ⟨rfl, rfl⟩
theorem back_stops (m : Nat) (hm : 1 ≤ m) (Bs n₀ n cap : Nat) (A : Option Addr) (hn : n ≤ 65536) (l : List PtM) (hl : l.length = n) (w : World) (hBn : Bs < w.heap.size) (hn₀ : n₀ ≤ w.heap.size)
    (hBs : w.cell? ⟨Bs, 0, none⟩ = some (.slice A n cap)) (hR : ∀ W', Below n₀ w W' → Rd W' 7 n A (l.flatMap PtM.cells)) :
    SeqStopsK Fence.wide m Try.prog 75 #[.pointer (some ⟨Bs, 0, none⟩)] (handed (l := l)) (KB n₀ Bs) (fun ys => ys.map Pa.pt = l.reverse) (fun pre => ∃ q, pre.map Pa.pt = (l.drop q).reverse) n w := fun L J Jx W hW _ _ hY h0 => by
  have hW' := hW.mono hn₀
  exact back1 m hm L Bs n₀ n cap A hn l hl J Jx hY W ((hW.cell (p := ⟨Bs, 0, none⟩) hBn).trans hBs) (fun W' h => hR W' (hW'.trans h)) h0
/-! The same over parts that a round may turn: what is handed out is whatever stands there. -/
structure KG (b Bs : Nat) (W W' : World) : Prop where
  row : ∀ cs t f, W.heap[b]? = some (.cells cs t f) → ∃ cs', W'.heap[b]? = some (.cells cs' t f) ∧ cs'.size = cs.size
  box : W'.heap[Bs]? = W.heap[Bs]?
theorem KG.refl (b Bs : Nat) (W : World) : KG b Bs W W := ⟨fun cs _ _ h => ⟨cs, h, rfl⟩, rfl⟩
theorem KG.trans {b Bs : Nat} {A B C : World} (h : KG b Bs A B) (k : KG b Bs B C) : KG b Bs A C :=
  ⟨fun cs t f hc => by obtain ⟨c1, h1, e1⟩ := h.row cs t f hc; obtain ⟨c2, h2, e2⟩ := k.row c1 t f h1; exact ⟨c2, h2, e2.trans e1⟩, k.box.trans h.box⟩
theorem kg_put {b Bs : Nat} {w : World} (hb : b < w.heap.size) (hB : Bs < w.heap.size) (W : World) (l : Nat) (o o' : Obj) (hl : w.heap.size ≤ l) (h : W.heap[l]? = some o) (_h2 : o.isCells = false) (_h3 : o.isWalk = false) : KG b Bs W (W.putObj l o') := by
  have hls := (Array.getElem?_eq_some_iff.1 h).1
  exact ⟨fun cs t f hc => ⟨cs, ((grownBy_putObj' W l o').block b (by omega) (by intro e; cases e; omega)).trans hc, rfl⟩, (grownBy_putObj' W l o').block Bs (by omega) (by intro e; cases e; omega)⟩
theorem KG.cell {b Bs : Nat} {W W' : World} (h : KG b Bs W W') : W'.cell? ⟨Bs, 0, none⟩ = W.cell? ⟨Bs, 0, none⟩ := by unfold World.cell?; rw [h.box]
/-- A place, and seven values. -/
structure Gh where
  k : Nat
  v0 : Value
  v1 : Value
  v2 : Value
  v3 : Value
  v4 : Value
  v5 : Value
  v6 : Value
abbrev GhN (n : Nat) := { x : Gh // x.k < n }
def GhN.ix {n : Nat} (x : GhN n) : Nat := x.1.k
def handedG {n : Nat} (x : GhN n) : Array Value := #[.int .i64 (x.1.k : Int), .agg #[x.1.v0, x.1.v1, x.1.v2, x.1.v3, x.1.v4, x.1.v5, x.1.v6]]
theorem cell_in {w : World} {b j : Nat} {cs : Array Value} {t : TypeId} {f : Nat × Nat} (h : w.heap[b]? = some (.cells cs t f)) (hj : j < cs.size) : ∃ v, w.cell? ⟨b, j, none⟩ = some v := by
  refine ⟨cs[j], ?_⟩
  simp [World.cell?, h, hj]
theorem down_step {n q : Nat} (h : q < n) : (List.range' q (n - q)).reverse = (List.range' (q + 1) (n - (q + 1))).reverse ++ [q] := by
  rw [show n - q = (n - (q + 1)) + 1 from by omega, List.range'_succ, List.reverse_cons]
set_option maxRecDepth 100000 in
set_option maxHeartbeats 2000000 in
theorem backG (m : Nat) (hm : 1 ≤ m) (L Bs b n cap : Nat) (A : Option Addr) (hn : n ≤ 65536) (J Jx : List (GhN n) → World → Prop)
    (hY : ∀ pre x W, J pre W → pre.length < n → YieldAt Fence.wide (m - 1) Try.prog L (handedG x) W fun e W' =>
      (e = .returned (.bool true) ∧ J (pre ++ [x]) W' ∧ KG b Bs W W') ∨ (e = .returned (.bool false) ∧ Jx (pre ++ [x]) W'))
    (W : World) (hBs : W.cell? ⟨Bs, 0, none⟩ = some (.slice A n cap)) (hA : n = 0 ∨ A = some ⟨b, 0, none⟩)
    (cs : Array Value) (t : TypeId) (f : Nat × Nat) (hc : n = 0 ∨ W.heap[b]? = some (.cells cs t f)) (hcs : n * 7 ≤ cs.size)
    (h0 : J [] W) :
    CallsIn Fence.wide m Try.prog 75 #[.func (.yield L) #[] #[], .pointer (some ⟨Bs, 0, none⟩)] W fun e W' => (∃ v, e = .returned v) ∧
      ((∃ ys : List (GhN n), ys.map GhN.ix = (List.range n).reverse ∧ J ys W') ∨ (∃ pre : List (GhN n), True ∧ Jx pre W')) := by
  have HC := Lib.hid hc
  have HA := Lib.hid hA
  clear hc hA
  refine callsIn_of_wp Try.func75 rfl trivial ?_ rfl
  simp only [Try.ntmps75, List.size_toArray, List.length_cons, List.length_nil, Nat.reduceAdd, Nat.reduceSub, Array.replicate_succ, Array.replicate_zero, List.push_toArray, List.append_toArray, List.nil_append, List.cons_append]
  gi_wp2
  gi_loopw [3] (fun i wr => ∃ (p : Nat) (z : Int) (pre : List (GhN n)), p ≤ n ∧ z + 1 = p ∧ i = .int .i64 z ∧ Hid (J pre wr) ∧ Hid (pre.map GhN.ix = (List.range' p (n - p)).reverse) ∧ Hid (KG b Bs W wr))
    (fun i _ => (intOf i + 1).toNat)
  case atStart => exact ⟨n, (n : Int) - 1, [], Nat.le_refl _, by omega, rfl, h0, Lib.hid (by rw [Nat.sub_self]; rfl), KG.refl _ _ _⟩
  case round =>
    obtain ⟨p, z, pre, hp, hz, rfl, HJ, HP, Hnx⟩ := hrel
    have hsl : wr.cell? ⟨Bs, 0, none⟩ = some (.slice A n cap) := Hnx.out.cell.trans hBs
    by_cases hlt : 0 < p
    · obtain ⟨q, rfl⟩ : ∃ q, p = q + 1 := ⟨p - 1, by omega⟩
      obtain rfl : z = (q : Int) := by omega
      have hq : q < n := by omega
      obtain rfl : A = some ⟨b, 0, none⟩ := HA.out.resolve_left (by omega)
      obtain ⟨cs', hc', hsz⟩ := Hnx.out.row cs t f (HC.out.resolve_left (by omega))
      obtain ⟨v0, e0⟩ := cell_in (j := q * 7) hc' (by omega)
      obtain ⟨v1, e1⟩ := cell_in (j := q * 7 + 1) hc' (by omega)
      obtain ⟨v2, e2⟩ := cell_in (j := q * 7 + 2) hc' (by omega)
      obtain ⟨v3, e3⟩ := cell_in (j := q * 7 + 3) hc' (by omega)
      obtain ⟨v4, e4⟩ := cell_in (j := q * 7 + 4) hc' (by omega)
      obtain ⟨v5, e5⟩ := cell_in (j := q * 7 + 5) hc' (by omega)
      obtain ⟨v6, e6⟩ := cell_in (j := q * 7 + 6) hc' (by omega)
      have hbl : b < wr.heap.size := (Array.getElem?_eq_some_iff.1 hc').1
      have hprl : pre.length < n := by
        have := congrArg List.length HP.out
        simp at this; omega
      have HP2 := Lib.hid (show (pre ++ [(⟨⟨q, v0, v1, v2, v3, v4, v5, v6⟩, hq⟩ : GhN n)]).map GhN.ix = (List.range' q (n - q)).reverse by rw [List.map_append, HP.out, down_step hq]; rfl)
      obtain ⟨fn, tmps, assign, body, hy, hR⟩ := hY _ ⟨⟨q, v0, v1, v2, v3, v4, v5, v6⟩, hq⟩ wr HJ.out hprl
      have HR := Lib.hid hR
      dsimp only [handedG] at hy
      clear hR hz hprl hc' hsz
      gi_wp2
      refine HR.out.mono ?_
      rintro e W3 (⟨rfl, hJ3, hk3⟩ | ⟨rfl, hJx3⟩)
      · have HE := Lib.hid hJ3
        have HB := Lib.hid (Hnx.out.trans hk3)
        clear hJ3 hk3
        gi_wp2
        go_roundw
        case rel => exact ⟨q, (q : Int) - 1, _, by omega, by omega, by go_num, HE, HP2, HB⟩
        case measure => simp [intOf]
      · gi_wp2
        refine bodyPost_ret (results_none rfl _ _ _) rfl ?_
        exact ⟨⟨_, rfl⟩, .inr ⟨_, trivial, hJx3⟩⟩
    · obtain rfl : p = 0 := by omega
      obtain rfl : z = -1 := by omega
      gi_wp2
      go_end0
      exact ⟨⟨_, rfl⟩, .inl ⟨_, by rw [HP.out, Nat.sub_zero, ← List.range_eq_range'], HJ.out⟩⟩
theorem backG_stops (m : Nat) (hm : 1 ≤ m) (Bs b n cap : Nat) (A : Option Addr) (hn : n ≤ 65536) (w : World) (hBn : Bs < w.heap.size)
    (hBs : w.cell? ⟨Bs, 0, none⟩ = some (.slice A n cap)) (hA : n = 0 ∨ A = some ⟨b, 0, none⟩) (cs : Array Value) (t : TypeId) (f : Nat × Nat) (hc : n = 0 ∨ w.heap[b]? = some (.cells cs t f)) (hcs : n * 7 ≤ cs.size) :
    SeqStopsK Fence.wide m Try.prog 75 #[.pointer (some ⟨Bs, 0, none⟩)] (handedG (n := n)) (KG b Bs) (fun ys => ys.map GhN.ix = (List.range n).reverse) (fun _ => True) n w := fun L J Jx W hW _ _ hY h0 => by
  exact backG m hm L Bs b n cap A hn J Jx hY W ((hW.cell (p := ⟨Bs, 0, none⟩) hBn).trans hBs) hA cs t f (hc.imp id fun h => (hW.block b (Array.getElem?_eq_some_iff.1 h).1).trans h) hcs h0
end Go.Proofs.Ytcageojoafkojaa.Ju
