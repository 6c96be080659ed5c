/- A reader in memory: eleven cells; what notes a fault, what takes the next word. -/
import Derived.Test.YtinofjbnfmalkaaGreatDoorParG
import Derived.Test.YtinofjbnfmalkaaGreatDoorGl
import Derived.Test.YtinofjbnfmalkaaGreatDoorGt
import Derived.Laws.StructEq
namespace Go.Proofs.YtinofjbnfmalkaaGreatDoor.Pa
open Go.RowKit Go.WideElems
structure RC where
  pv : Value
  nm : Value
  d : Value
  rv : Value
  h : Value
  bv : Value
  qv : Value
def rdrL (c : RC) (lv : Value) (x : Wr) : List Value := [c.pv, lv, c.nm, c.d, c.rv, c.h, c.bv, c.qv, .int .i64 x.l, .int .i64 x.c, .int .i64 x.e]
def tkV (t : Tok) : Value := .agg #[.int .u8 t.k, .string ⟨t.t.toArray⟩, .int .u64 t.n, .int .i64 t.line, .int .i64 t.col]
structure Rb (w : World) (b : Nat) (c : RC) (s : RS) : Prop where
  blk : ∃ A cap, Bk w b 109 (rdrL c (.slice A s.left.length cap) s.wr) ∧ s.left.length ≤ cap ∧ Rd w 5 s.left.length A (flatT s.left) ∧ ∀ a, A = some a → a.block < b ∧ TyB w a.block 182
theorem Rb.lt {w : World} {b : Nat} {c : RC} {s : RS} (h : Rb w b c s) : b < w.heap.size := by obtain ⟨_, _, h, _⟩ := h.blk; exact h.lt
theorem Rb.kept {w w' : World} {b : Nat} {c : RC} {s : RS} (h : Rb w b c s) (hb : Below w.heap.size w w') : Rb w' b c s := by
  obtain ⟨A, cap, h1, h2, h3, h4⟩ := h.blk
  exact ⟨A, cap, h1.kept hb, h2, h3.below hb, fun a ha => ⟨(h4 a ha).1, (h4 a ha).2.below hb⟩⟩
theorem TyB.grown {w w' : World} {b g : Nat} {T : TypeId} (h : TyB w b T) (hg : w.grownBy w' (some g)) (hn : b ≠ g) : TyB w' b T := by
  obtain ⟨c, f, h⟩ := h
  exact ⟨c, f, (hg.block b (Array.getElem?_eq_some_iff.1 h).1 (fun e => hn (Option.some.inj e))).trans h⟩
theorem Rb.grown {w w' : World} {b g : Nat} {c : RC} {s : RS} (h : Rb w b c s) (hg : w.grownBy w' (some g)) (hn : b < g) : Rb w' b c s := by
  obtain ⟨A, cap, h1, h2, h3, h4⟩ := h.blk
  exact ⟨A, cap, h1.grown hg (by intro e; have := Option.some.inj e; omega), h2, h3.grownO (.inr fun a ha => by have := (h4 a ha).1; omega) hg, fun a ha => ⟨(h4 a ha).1, TyB.grown (h4 a ha).2 hg (by have := (h4 a ha).1; omega)⟩⟩
theorem Rb.alloc {w : World} {b : Nat} {c : RC} {s : RS} (h : Rb w b c s) (o : Obj) : Rb (w.alloc o) b c s := h.kept (oneb w o)
theorem Rb.tyb {w : World} {b : Nat} {c : RC} {s : RS} (h : Rb w b c s) : TyB w b 109 := by obtain ⟨_, _, h, _⟩ := h.blk; exact h.tyb
def UnitR (b : Nat) (c : RC) (s : RS) (w : World) (e : Ending) (w' : World) : Prop := e = .returned (.tuple #[]) ∧ Rb w' b c s ∧ w.grownBy w' (some b)
def TokR (t : Tok) (b : Nat) (c : RC) (s : RS) (w : World) (e : Ending) (w' : World) : Prop := e = .returned (tkV t) ∧ Rb w' b c s ∧ w.grownBy w' (some b)
theorem unit_of {b : Nat} {c : RC} {s s' : RS} {w w' : World} {e : Ending} (h : s = s') (he : e = .returned (.tuple #[])) (hr : Rb w' b c s') (hg : w.grownBy w' (some b)) : UnitR b c s w e w' := by subst h; exact ⟨he, hr, hg⟩
theorem grow_al {w w1 : World} {b : Nat} (h : w.grownBy w1 (some b)) (o : Obj) : w.grownBy (w1.alloc o) (some b) := grown_trans h (World.grownBy_alloc w1 o none) (by simp)
theorem grow_0 (w : World) (b : Nat) (o : Obj) : w.grownBy (w.alloc o) (some b) := World.grownBy_alloc w o (some b)
set_option maxHeartbeats 4000000 in
set_option maxRecDepth 100000 in
theorem fail_any' (b : Nat) (c : RC) (s : RS) (t : Tok) (er : Nat) (w : World) (h : Rb w b c s) :
    Calls Tryz.prog 98 #[.pointer (some ⟨b, 0, none⟩), .agg #[.int .u8 t.k, .string ⟨t.t.toArray⟩, .int .u64 t.n, .int .i64 t.line, .int .i64 t.col], .int .i64 er] w (UnitR b c (fl s t er) w) := by
  obtain ⟨xs, ⟨xl, xc, xe⟩⟩ := s
  have H1 := Lib.hid (h.alloc (.cells #[.int .u8 t.k, .string ⟨t.t.toArray⟩, .int .u64 t.n, .int .i64 t.line, .int .i64 t.col] 182))
  obtain ⟨A, cap, hb, hc, hr, hA⟩ := h.blk
  have hlt := hb.lt
  have q1 := hb.cell 1 rfl
  have q8 := hb.cell 8 rfl
  have q9 := hb.cell 9 rfl
  have qa := hb.cell 10 rfl
  have f1 := hb.fz 1
  have f8 := hb.fz 8
  have f9 := hb.fz 9
  have fa := hb.fz 10
  have HB := Lib.hid hb
  clear h hb hc hr hA
  by_cases hx : (⟨xl, xc, xe⟩ : Wr) = noW
  · have hQ : ∀ W : World, (binOp .neq 48 (.agg #[.int .i64 xl, .int .i64 xc, .int .i64 xe]) (.agg #[.int .i64 0, .int .i64 0, .int .i64 0])).run Tryz.prog W = .ok (.bool false) W := fun W => by have h := neq_wr ⟨xl, xc, xe⟩ noW W; rw [decide_eq_true hx] at h; exact h
    have HV := Lib.hid (show fl ⟨xs, ⟨xl, xc, xe⟩⟩ t er = ⟨[], ⟨t.line, t.col, er⟩⟩ by unfold fl; rw [if_pos hx])
    clear hx
    go_enter Tryz.func98, Tryz.ntmps98
    go_wp2_with fail
    go_end0
    exact unit_of HV.out rfl ⟨none, 0, ((((HB.out.set 8 (.int .i64 t.line)).set 9 (.int .i64 t.col)).set 10 (.int .i64 er)).set 1 (.slice none 0 0)).alloc _, Nat.le_refl _, Rd.nil _ _ _, fun a ha => by cases ha⟩
      (grow_al (only_trans (only_trans (only_trans (only_set w b 8 _) (only_set _ b 9 _)) (only_set _ b 10 _)) (only_set _ b 1 _)) _)
  · have hQ : ∀ W : World, (binOp .neq 48 (.agg #[.int .i64 xl, .int .i64 xc, .int .i64 xe]) (.agg #[.int .i64 0, .int .i64 0, .int .i64 0])).run Tryz.prog W = .ok (.bool true) W := fun W => by have h := neq_wr ⟨xl, xc, xe⟩ noW W; rw [decide_eq_false hx] at h; exact h
    have HV := Lib.hid (show fl ⟨xs, ⟨xl, xc, xe⟩⟩ t er = ⟨xs, ⟨xl, xc, xe⟩⟩ by unfold fl; rw [if_neg hx])
    clear hx
    go_enter Tryz.func98, Tryz.ntmps98
    go_wp2_with fail
    go_end0
    exact unit_of HV.out rfl H1.out (grow_0 _ _ _)
theorem flat_cons (x : Tok) (l : List Tok) : flatT (x :: l) = x.cells ++ flatT l := by simp [flatT]
theorem trd_tail {w : World} {x : Tok} {l : List Tok} {a : Addr} (h : Rd w 5 (x :: l).length (some a) (flatT (x :: l))) : Rd w 5 l.length (some ⟨a.block, a.off + 5, none⟩) (flatT l) := by
  obtain ⟨h1, h2⟩ := h
  rcases h2 with h2 | ⟨b, o, e, hl, hc⟩
  · simp at h2
  · cases e
    · refine ⟨by rw [flatT_len], .inr ⟨b, o + 5, rfl, hl, fun j u hu => ?_⟩⟩
      have := hc (5 + j) u (by rw [flat_cons, List.getElem?_append_right (by simp [Tok.cells]), show 5 + j - x.cells.length = j by simp [Tok.cells]]; exact hu)
      rwa [← Nat.add_assoc] at this
theorem tok_of {t t' : Tok} {b : Nat} {c : RC} {s s' : RS} {w w' : World} {e : Ending} (ht : t = t') (h : s = s') (he : e = .returned (tkV t')) (hr : Rb w' b c s') (hg : w.grownBy w' (some b)) : TokR t b c s w e w' := by subst h; subst ht; exact ⟨he, hr, hg⟩
set_option maxHeartbeats 4000000 in
set_option maxRecDepth 100000 in
theorem next_any (b : Nat) (c : RC) (s : RS) (w : World) (h : Rb w b c s) (hs : s.left.length ≤ 2000000) :
    Calls Tryz.prog 97 #[.pointer (some ⟨b, 0, none⟩)] w (TokR (nx s) b c (dp s) w) := by
  obtain ⟨xs, wr⟩ := s
  have H1 := Lib.hid (h.alloc (.cells #[.int .u8 0, .string ByteArray.empty, .int .u64 0, .int .i64 0, .int .i64 0] 182))
  obtain ⟨A, cap, hb, hc, hr, hA⟩ := h.blk
  have hlt := hb.lt
  have q1 := hb.cell 1 rfl
  have f1 := hb.fz 1
  have HB := Lib.hid hb
  have HR := Lib.hid hr
  clear h hb hr
  cases xs with
  | nil =>
    go_enter Tryz.func97, Tryz.ntmps97
    go_wp2_with fail
    refine bodyPost_ret (v := tkV zTok) ?_ rfl ?_
    · simp [results, Tryz.results97, go_sem, tkV, zTok]
    · exact tok_of rfl rfl rfl H1.out (grow_0 _ _ _)
  | cons x l =>
    have hR0 := HR.out
    simp only [List.length_cons] at q1 hc hs
    obtain ⟨b0, o0, rfl, hbl, hcell⟩ := hR0.pos (by simp)
    have hAb : b0 < b ∧ TyB w b0 182 := hA _ rfl
    obtain ⟨c0, c1, c2, c3, c4⟩ := five_cells (k := 0) hcell rfl
    simp only [Nat.zero_mul, Nat.add_zero] at c0 c1 c2 c3 c4
    have hT := Lib.hid (trd_tail hR0)
    obtain ⟨n, hn⟩ : ∃ n, n = l.length := ⟨_, rfl⟩
    rw [← hn] at q1 hc hs
    have Hn := Lib.hid hn
    have hn1 : ((n + 1 : Nat) : Int) = (n : Int) + 1 := by omega
    have hz : ((n : Int) + 1 == 0) = false := by rw [beq_eq_false_iff_ne]; omega
    clear hcell hR0 hn
    have hend : ∀ (lv : Value) (cp : Nat) (A : Option Addr), lv = .slice A n cp → n ≤ cp → Rd w 5 l.length A (flatT l) → (∀ a, A = some a → a.block < b ∧ TyB w a.block 182) → TokR (nx ⟨x :: l, wr⟩) b c (dp ⟨x :: l, wr⟩) w (.returned (tkV x)) (((w.setCell ⟨b, 1, none⟩ lv).alloc (.cells #[.int .u8 x.k, .string ⟨x.t.toArray⟩, .int .u64 x.n, .int .i64 x.line, .int .i64 x.col] 182)).alloc (.cells #[.int .u8 x.k, .string ⟨x.t.toArray⟩, .int .u64 x.n, .int .i64 x.line, .int .i64 x.col] 182)) := by
      rintro lv cp A rfl hcp htr hab
      have hg := grow_al (grow_al (only_set w b 1 (.slice A n cp)) (.cells #[.int .u8 x.k, .string ⟨x.t.toArray⟩, .int .u64 x.n, .int .i64 x.line, .int .i64 x.col] 182)) (.cells #[.int .u8 x.k, .string ⟨x.t.toArray⟩, .int .u64 x.n, .int .i64 x.line, .int .i64 x.col] 182)
      refine tok_of rfl rfl rfl ⟨A, cp, ?_, by show l.length ≤ cp; rw [← Hn.out]; exact hcp, htr.grownO (.inr fun a ha => by have := (hab a ha).1; omega) hg, fun a ha => ⟨(hab a ha).1, TyB.grown (hab a ha).2 hg (by have := (hab a ha).1; omega)⟩⟩ hg
      show Bk _ b _ (rdrL c (.slice A l.length cp) wr)
      rw [← Hn.out]
      exact ((HB.out.set 1 (.slice A n cp)).alloc _).alloc _
    have Hend := Lib.hid hend
    clear hend
    go_enter Tryz.func97, Tryz.ntmps97
    go_wp2_with fail
    all_goals (refine bodyPost_ret (v := tkV x) ?_ rfl ?_)
    all_goals first
      | (simp [results, Tryz.results97, go_sem, tkV]; done)
      | exact Hend.out _ _ _ rfl (by omega) hT.out (fun a ha => by cases ha; exact hAb)
      | (refine Hend.out _ _ _ rfl (by omega) ?_ (fun a ha => by cases ha; exact hAb)
         have hl0 : l = [] := List.length_eq_zero_iff.1 (by have := Hn.out; omega)
         subst hl0
         exact ⟨rfl, .inl rfl⟩)
theorem set5_grown (w : World) (g : Nat) (v0 v1 v2 v3 v4 : Value) : w.grownBy (((((w.setCell ⟨g, 0, none⟩ v0).setCell ⟨g, 1, none⟩ v1).setCell ⟨g, 2, none⟩ v2).setCell ⟨g, 3, none⟩ v3).setCell ⟨g, 4, none⟩ v4) (some g) :=
  only_trans (only_trans (only_trans (only_trans (only_set _ g 0 v0) (only_set _ g 1 v1)) (only_set _ g 2 v2)) (only_set _ g 3 v3)) (only_set _ g 4 v4)
theorem fin5 {w w1 : World} {b g : Nat} {c : RC} {s : RS} (h : Rb w1 b c s) (hg : w.grownBy w1 (some b)) (hb : b < w.heap.size) (hw : w.heap.size ≤ g) (v0 v1 v2 v3 v4 : Value) :
    Rb (((((w1.setCell ⟨g, 0, none⟩ v0).setCell ⟨g, 1, none⟩ v1).setCell ⟨g, 2, none⟩ v2).setCell ⟨g, 3, none⟩ v3).setCell ⟨g, 4, none⟩ v4) b c s ∧
    w.grownBy (((((w1.setCell ⟨g, 0, none⟩ v0).setCell ⟨g, 1, none⟩ v1).setCell ⟨g, 2, none⟩ v2).setCell ⟨g, 3, none⟩ v3).setCell ⟨g, 4, none⟩ v4) (some b) :=
  ⟨h.grown (set5_grown w1 g v0 v1 v2 v3 v4) (by omega), grown_trans hg (set5_grown w1 g v0 v1 v2 v3 v4) (fun k hk => by cases hk; exact .inr hw)⟩
theorem grow_in {w w1 : World} {b : Nat} (o : Obj) (h : (w.alloc o).grownBy w1 (some b)) : w.grownBy w1 (some b) := grown_trans (World.grownBy_alloc w o (some b)) h (fun _ hk => .inl hk)
end Go.Proofs.YtinofjbnfmalkaaGreatDoor.Pa
