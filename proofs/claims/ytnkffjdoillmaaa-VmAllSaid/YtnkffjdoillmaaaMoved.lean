/- An instruction whose jumps go to the same ones as ahead. -/
import Derived.Test.YtnkffjdoillmaaaReach
import Derived.Test.YtnkffjdoillmaaaStripM
import Derived.ChangeAlike
namespace Go.Proofs.Ytnkffjdoillmaaa
open Go.RowKit
/-- The places where each will stand. -/
structure Places (w : World) (gp N : Nat) (p : Nat → Nat) : Prop where
  bk : Bk w gp 3 (ints ((List.range N).map p))
  small : ∀ j, p j ≤ 65536
theorem Places.cell {w : World} {gp N : Nat} {p : Nat → Nat} (h : Places w gp N p) (j : Nat) (hj : j < N) : w.cell? ⟨gp, j, none⟩ = some (.int .i64 (p j : Nat)) := h.bk.cell j (by simp [ints, hj])
theorem Places.kept {w w' : World} {gp N : Nat} {p : Nat → Nat} (h : Places w gp N p) (hb : Below w.heap.size w w') : Places w' gp N p := ⟨h.bk.kept hb, h.small⟩
set_option maxRecDepth 100000 in
set_option maxHeartbeats 1000000 in
theorem farm_any (d a pb ab gp N : Nat) (p : Nat → Nat) (w : World) (hp : Places w gp N p) (h1 : w.cell? ⟨pb, 0, none⟩ = some (.slice (some ⟨gp, 0, none⟩) N N)) (h2 : w.cell? ⟨ab, 0, none⟩ = some (.int .i64 a)) (hd : a + 1 + d < N) (hN : N ≤ 65536) (hpp : p a + 1 ≤ p (a + 1 + d)) :
    Calls Try.prog 70 #[.int .i64 d, .pointer (some ⟨pb, 0, none⟩), .pointer (some ⟨ab, 0, none⟩)] w fun e w' => e = .returned (.int .i64 ((p (a + 1 + d) - p a - 1 : Nat) : Int)) ∧ ∃ q, w' = w.drewN q := by
  obtain ⟨P0, hP0⟩ : ∃ x, x = p a := ⟨_, rfl⟩
  obtain ⟨P1, hP1⟩ : ∃ x, x = p (a + 1 + d) := ⟨_, rfl⟩
  have c0 : w.cell? ⟨gp, a, none⟩ = some (.int .i64 P0) := by rw [hP0]; exact hp.cell a (by omega)
  have c1 : w.cell? ⟨gp, a + 1 + d, none⟩ = some (.int .i64 P1) := by rw [hP1]; exact hp.cell _ hd
  have s0 : P0 ≤ 65536 := hP0 ▸ hp.small a
  have s1 : P1 ≤ 65536 := hP1 ▸ hp.small _
  rw [← hP0, ← hP1] at hpp ⊢
  obtain ⟨D, hD⟩ : ∃ D, D = P1 - P0 - 1 := ⟨_, rfl⟩
  rw [← hD]
  have w1 : IntKind.i64.wrap ((a : Int) + 1) = (a : Int) + 1 := IntWalk.i64_in _ (by omega)
  have w2 : IntKind.i64.wrap ((a : Int) + 1 + (d : Int)) = (a : Int) + 1 + (d : Int) := IntWalk.i64_in _ (by omega)
  have w3 : IntKind.i64.wrap ((P1 : Int) - (P0 : Int)) = (P1 : Int) - (P0 : Int) := IntWalk.i64_in _ (by omega)
  have w4 : IntKind.i64.wrap ((P1 : Int) - (P0 : Int) - 1) = (D : Int) := by rw [IntWalk.i64_in _ (by omega)]; omega
  have b1 : (0 : Int) ≤ (a : Int) + 1 + (d : Int) := by omega
  have b2 : (a : Int) + 1 + (d : Int) < (N : Int) := by omega
  have b3 : ((a : Int) + 1 + (d : Int)).toNat = a + 1 + d := by omega
  have b4 : (a : Int) < (N : Int) := by omega
  clear hP0 hP1 hp hd hN hpp s0 s1 hD
  go_enter Try.func70, Try.ntmps70
  go_wp2_with fail
  go_quiet (fail)
  go_wp2
  go_ret
  exact ⟨rfl, _, rfl⟩
/-- The same memory, whatever was drawn. -/
structure Same (w w' : World) : Prop where
  os : w'.os = w.os
  tape : w'.tape = w.tape
  output : w'.output = w.output
  heap : w'.heap = w.heap
theorem Same.bk {w w' : World} {g t : Nat} {l : List Value} (h : Same w w') (hb : Bk w g t l) : Bk w' g t l := by unfold Bk; rw [h.heap]; exact hb
theorem Same.bel {w w' : World} {B : Nat} {w0 : World} (h : Same w w') (hb : Below B w0 w) : Below B w0 w' :=
  hb.trans ⟨h.os, h.tape, h.output, by rw [h.heap]; exact Nat.le_refl _, fun k _ => by rw [h.heap]⟩
def OnlyR (fr : Act) (R : World → Prop) : Exit → Act → World → Prop
  | .normal, a, w => a = fr ∧ R w
  | _, _, _ => False
theorem OnlyR.here {fr : Act} {R : World → Prop} {w : World} (h : R w) : OnlyR fr R .normal fr w := ⟨rfl, h⟩
theorem wp_onceR {P : Program} {c : Code} {Q : Exit → Act → World → Prop} {a : Act} {w : World} (fr : Act) (R : World → Prop) (h : c.wp P (OnlyR fr R) a w) (hK : ∀ w', R w' → Q .normal fr w') : c.wp P Q a w :=
  Code.wp_mono (fun e a w h => by
    cases e with
    | normal =>
      obtain ⟨h1, h2⟩ := h
      subst h1
      exact hK _ h2
    | _ => exact (h : False).elim) h
def MovedPost (x : Ins) (w : World) (e : Ending) (w' : World) : Prop := e = .returned (.agg #[.int .u16 x.c, .int .u8 x.t, .int .u8 x.f, .int .u32 x.k]) ∧ Below w.heap.size w w'
/-- The memory: the instruction, its place, the places; the answer. -/
structure MMem (w wr : World) (gp N a : Nat) (p : Nat → Nat) (x r : List Value) : Prop where
  ins : Bk wr w.heap.size 60 x
  at_ : Bk wr (w.heap.size + 1) 3 [.int .i64 a]
  pl : Bk wr (w.heap.size + 1 + 1) 76 [.slice (some ⟨gp, 0, none⟩) N N]
  ans : Bk wr (w.heap.size + 1 + 1 + 1) 60 r
  places : Places wr gp N p
  bel : Below w.heap.size w wr
theorem MMem.kept {w wr w' : World} {gp N a : Nat} {p : Nat → Nat} {x r : List Value} (h : MMem w wr gp N a p x r) (hb : Below wr.heap.size wr w') : MMem w w' gp N a p x r :=
  ⟨h.ins.kept hb, h.at_.kept hb, h.pl.kept hb, h.ans.kept hb, h.places.kept hb, h.bel.trans (hb.mono h.bel.size)⟩
theorem mmem_of (w : World) (gp N a c t f k : Nat) (p : Nat → Nat) (hp : Places w gp N p) :
    MMem w ((((w.alloc (.cells #[.int .u16 c, .int .u8 t, .int .u8 f, .int .u32 k] 60)).alloc (.cells #[.int .i64 a] 3)).alloc (.cells #[.slice (some ⟨gp, 0, none⟩) N N] 76)).alloc (.cells #[.int .u16 0, .int .u8 0, .int .u8 0, .int .u32 0] 60)) gp N a p [.int .u16 c, .int .u8 t, .int .u8 f, .int .u32 k] [.int .u16 0, .int .u8 0, .int .u8 0, .int .u32 0] := by
  have b1 := (Below.refl w.heap.size w).alloc (Nat.le_refl _) (.cells #[.int .u16 c, .int .u8 t, .int .u8 f, .int .u32 k] 60)
  have b2 := b1.alloc b1.size (.cells #[.int .i64 a] 3)
  have b3 := b2.alloc b2.size (.cells #[.slice (some ⟨gp, 0, none⟩) N N] 76)
  have b4 := b3.alloc b3.size (.cells #[.int .u16 0, .int .u8 0, .int .u8 0, .int .u32 0] 60)
  refine ⟨(((Bk.new w _ _ rfl).alloc _).alloc _).alloc _, ?_, ?_, ?_, hp.kept b4, b4⟩
  · have := ((Bk.new (w.alloc (.cells #[.int .u16 c, .int .u8 t, .int .u8 f, .int .u32 k] 60)) 3 #[.int .i64 a] rfl).alloc (.cells #[.slice (some ⟨gp, 0, none⟩) N N] 76)).alloc (.cells #[.int .u16 0, .int .u8 0, .int .u8 0, .int .u32 0] 60)
    simpa using this
  · have := (Bk.new ((w.alloc (.cells #[.int .u16 c, .int .u8 t, .int .u8 f, .int .u32 k] 60)).alloc (.cells #[.int .i64 a] 3)) 76 #[.slice (some ⟨gp, 0, none⟩) N N] rfl).alloc (.cells #[.int .u16 0, .int .u8 0, .int .u8 0, .int .u32 0] 60)
    simpa using this
  · have := Bk.new (((w.alloc (.cells #[.int .u16 c, .int .u8 t, .int .u8 f, .int .u32 k] 60)).alloc (.cells #[.int .i64 a] 3)).alloc (.cells #[.slice (some ⟨gp, 0, none⟩) N N] 76)) 60 #[.int .u16 0, .int .u8 0, .int .u8 0, .int .u32 0] rfl
    simpa using this
theorem ans_set {w w4 : World} {g B : Nat} {v0 v1 v2 v3 : Value} (h : Bk w4 g 60 [v0, v1, v2, v3]) (hb : Below B w w4) (c t f k : Nat) (hB : B ≤ g := by omega) :
    Bk ((((w4.setCell ⟨g, 0, none⟩ (.int .u16 c)).setCell ⟨g, 1, none⟩ (.int .u8 t)).setCell ⟨g, 2, none⟩ (.int .u8 f)).setCell ⟨g, 3, none⟩ (.int .u32 k)) g 60 [.int .u16 c, .int .u8 t, .int .u8 f, .int .u32 k] ∧
    Below B w ((((w4.setCell ⟨g, 0, none⟩ (.int .u16 c)).setCell ⟨g, 1, none⟩ (.int .u8 t)).setCell ⟨g, 2, none⟩ (.int .u8 f)).setCell ⟨g, 3, none⟩ (.int .u32 k)) := by
  refine ⟨(((h.set 0 _).set 1 _).set 2 _).set 3 _, ?_⟩
  exact (((hb.setCell (p := ⟨g, 0, none⟩) hB _).setCell (p := ⟨g, 1, none⟩) hB _).setCell (p := ⟨g, 2, none⟩) hB _).setCell (p := ⟨g, 3, none⟩) hB _
set_option maxRecDepth 100000 in
set_option maxHeartbeats 2000000 in
theorem moved_any (x : Ins) (a gp N : Nat) (p : Nat → Nat) (w : World) (hx : x.ok) (hp : Places w gp N p) (_ha : a < N) (hN : N ≤ 65536)
    (hto : x.c % 8 = 5 → ∀ d ∈ rel x, a + 1 + d < N ∧ p a + 1 ≤ p (a + 1 + d) ∧ p (a + 1 + d) ≤ p a + 1 + d) :
    Calls Try.prog 52 #[.agg #[.int .u16 x.c, .int .u8 x.t, .int .u8 x.f, .int .u32 x.k], .int .i64 a, .slice (some ⟨gp, 0, none⟩) N N] w (MovedPost (mv p x a) w) := by
  have C := Lib.hid (fun w => class_any x.c w hx.1)
  have Al := Lib.hid (fun w => always_any x.c x.t x.f x.k w)
  obtain ⟨r, hr⟩ : ∃ r, r = x.c % 8 := ⟨_, rfl⟩
  rw [← hr] at C hto
  obtain ⟨c, t, f, k⟩ := x
  obtain ⟨h1, h2, h3, h4⟩ := hx
  dsimp only at *
  have HM := Lib.hid (mmem_of w gp N a c t f k p hp)
  by_cases h5 : r = 5
  · subst h5
    have Hto := Lib.hid (hto rfl)
    clear hto
    by_cases hc : c = 5
    · subst hc
      have hmv : mv p ⟨5, t, f, k⟩ a = ⟨5, t, f, p (a + 1 + k) - p a - 1⟩ := by simp [mv]
      rw [hmv]
      obtain ⟨k1, k2, k3⟩ := Hto.out k (by simp [rel])
      have Far := Lib.hid (fun wx (hm : MMem w wx gp N a p [.int .u16 (5 : Nat), .int .u8 t, .int .u8 f, .int .u32 k] [.int .u16 0, .int .u8 0, .int .u8 0, .int .u32 0]) => farm_any k a (w.heap.size + 1 + 1) (w.heap.size + 1) gp N p wx hm.places (hm.pl.cell 0 rfl) (hm.at_.cell 0 rfl) k1 hN k2)
      obtain ⟨D, hD⟩ : ∃ D, D = p (a + 1 + k) - p a - 1 := ⟨_, rfl⟩
      have hDl : D < 4294967296 := by omega
      rw [← hD] at Far ⊢
      have hwD : IntKind.u32.wrap (D : Int) = D := IntWalk.u32_in (D : Int) (by omega)
      clear hr hp hmv k1 k2 k3 hD Hto
      go_enter Try.func52, Try.ntmps52
      go_wp2_with fail
      refine (C.out _).mono ?_
      rintro e w' ⟨rfl, rfl⟩
      go_wp2_with fail
      refine (Al.out _).mono ?_
      rintro e w2 ⟨rfl, hb2⟩
      have HM2 := Lib.hid (HM.out.kept hb2)
      have q0 := HM2.out.ins.cell 0 rfl
      have q1 := HM2.out.ins.cell 1 rfl
      have q2 := HM2.out.ins.cell 2 rfl
      have q3 := HM2.out.ins.cell 3 rfl
      clear hb2
      go_wp2_with fail
      refine (Far.out _ HM2.out).mono ?_
      rintro e w' ⟨rfl, q, rfl⟩
      have HM3 := Lib.hid (HM2.out.kept (below_drewN (Below.refl _ _) q))
      clear q0 q1 q2 q3 HM2 Far C Al HM
      revert HM3
      generalize w2.drewN q = w3
      intro HM3
      have q0 := HM3.out.ins.cell 0 rfl
      have q1 := HM3.out.ins.cell 1 rfl
      have q2 := HM3.out.ins.cell 2 rfl
      have q3 := HM3.out.ins.cell 3 rfl
      have f3 := HM3.out.ins.fz 3
      have HI := HM3.out.ins.set 3 (.int .u32 D)
      have hg1 := only_set w3 w.heap.size 3 (.int .u32 D)
      have HA := HM3.out.ans.grown hg1 (by simp; omega)
      have HBl := Lib.hid (only_below HM3.out.bel hg1 HM3.out.bel.size (Nat.le_refl _))
      revert HI HA HBl
      generalize hw4 : w3.setCell ⟨w.heap.size, 3, none⟩ (.int .u32 D) = w4
      intro HI HA HBl
      have i0 := HI.cell 0 rfl
      have i1 := HI.cell 1 rfl
      have i2 := HI.cell 2 rfl
      have i3 := HI.cell 3 rfl
      have a0 := HA.cell 0 rfl
      have a1 := HA.cell 1 rfl
      have a2 := HA.cell 2 rfl
      have a3 := HA.cell 3 rfl
      have g0 := HA.fz 0
      have g1 := HA.fz 1
      have g2 := HA.fz 2
      have g3 := HA.fz 3
      have Hlast := Lib.hid (ans_set HA HBl.out 5 t f D)
      clear HI HA HBl hg1
      go_wp2_with fail
      clear a0 a1 a2 a3 g0 g1 g2 g3 i0 i1 i2 i3
      revert Hlast
      generalize ((((w4.setCell ⟨w.heap.size + 1 + 1 + 1, 0, none⟩ (.int .u16 (5 : Nat))).setCell ⟨w.heap.size + 1 + 1 + 1, 1, none⟩ (.int .u8 t)).setCell ⟨w.heap.size + 1 + 1 + 1, 2, none⟩ (.int .u8 f)).setCell ⟨w.heap.size + 1 + 1 + 1, 3, none⟩ (.int .u32 D)) = w5
      intro Hlast
      have r0 := Hlast.out.1.cell 0 rfl
      have r1 := Hlast.out.1.cell 1 rfl
      have r2 := Hlast.out.1.cell 2 rfl
      have r3 := Hlast.out.1.cell 3 rfl
      exact bodyPost_ret (v := .agg #[.int .u16 (5 : Nat), .int .u8 t, .int .u8 f, .int .u32 D]) (by simp [results, Try.results52, go_sem, r0, r1, r2, r3]) rfl ⟨rfl, Hlast.out.2⟩
    · have hmv : mv p ⟨c, t, f, k⟩ a = ⟨c, p (a + 1 + t) - p a - 1, p (a + 1 + f) - p a - 1, k⟩ := by simp [mv, ← hr, hc]
      rw [hmv]
      have hrel : rel ⟨c, t, f, k⟩ = [t, f] := by simp [rel, ← hr, hc]
      rw [hrel] at Hto
      obtain ⟨k1, k2, k3⟩ := Hto.out t (by simp)
      obtain ⟨l1, l2, l3⟩ := Hto.out f (by simp)
      have Far1 := Lib.hid (fun wx (hm : MMem w wx gp N a p [.int .u16 c, .int .u8 t, .int .u8 f, .int .u32 k] [.int .u16 0, .int .u8 0, .int .u8 0, .int .u32 0]) => farm_any t a (w.heap.size + 1 + 1) (w.heap.size + 1) gp N p wx hm.places (hm.pl.cell 0 rfl) (hm.at_.cell 0 rfl) k1 hN k2)
      have Far2 := Lib.hid (fun wx (hm : MMem w wx gp N a p [.int .u16 c, .int .u8 t, .int .u8 f, .int .u32 k] [.int .u16 0, .int .u8 0, .int .u8 0, .int .u32 0]) => farm_any f a (w.heap.size + 1 + 1) (w.heap.size + 1) gp N p wx hm.places (hm.pl.cell 0 rfl) (hm.at_.cell 0 rfl) l1 hN l2)
      obtain ⟨D1, hD1⟩ : ∃ D, D = p (a + 1 + t) - p a - 1 := ⟨_, rfl⟩
      obtain ⟨D2, hD2⟩ : ∃ D, D = p (a + 1 + f) - p a - 1 := ⟨_, rfl⟩
      have hDl1 : D1 < 256 := by omega
      have hDl2 : D2 < 256 := by omega
      rw [← hD1] at Far1 ⊢
      rw [← hD2] at Far2 ⊢
      have hwD1 : IntKind.u8.wrap (D1 : Int) = D1 := IntWalk.u8_in (D1 : Int) (by omega)
      have hwt : IntKind.i64.wrap (t : Int) = t := IntWalk.i64_in _ (by omega)
      have hwf : IntKind.i64.wrap (f : Int) = f := IntWalk.i64_in _ (by omega)
      have hwD2 : IntKind.u8.wrap (D2 : Int) = D2 := IntWalk.u8_in (D2 : Int) (by omega)
      rw [decide_eq_false hc] at Al
      clear hr hp hmv k1 k2 k3 l1 l2 l3 hD1 hD2 Hto hc hrel
      go_enter Try.func52, Try.ntmps52
      go_wp2_with fail
      refine (C.out _).mono ?_
      rintro e w' ⟨rfl, rfl⟩
      go_wp2_with fail
      refine (Al.out _).mono ?_
      rintro e w2 ⟨rfl, hb2⟩
      have HM2 := Lib.hid (HM.out.kept hb2)
      have q0 := HM2.out.ins.cell 0 rfl
      have q1 := HM2.out.ins.cell 1 rfl
      have q2 := HM2.out.ins.cell 2 rfl
      have q3 := HM2.out.ins.cell 3 rfl
      have f1 := HM2.out.ins.fz 1
      have f2 := HM2.out.ins.fz 2
      clear hb2 HM
      go_wp2_with fail
      refine wp_onceR ?fr (Same ((w2.setCell ⟨w.heap.size, 1, none⟩ (.int .u8 D1)).setCell ⟨w.heap.size, 2, none⟩ (.int .u8 D2))) ?reg ?imp
      case reg =>
        go_region_with (go_at_call 70; (first | (with_reducible refine (Far1.out _ (HM2.out.kept (Below.refl _ _).drew)).mono ?_) | (with_reducible refine (Far2.out _ (HM2.out.kept (Below.refl _ _).drew)).mono ?_) | (with_reducible refine (Far1.out _ (HM2.out.kept (below_drewN (Below.refl _ _) _))).mono ?_) | (with_reducible refine (Far2.out _ (HM2.out.kept (below_drewN (Below.refl _ _) _))).mono ?_)); rintro e w' ⟨rfl, q, rfl⟩)
        all_goals
          refine OnlyR.here ?_
          exact ⟨rfl, rfl, rfl, rfl⟩
      case imp =>
        intro w3 hs
        have HI := hs.bk ((HM2.out.ins.set 1 (.int .u8 D1)).set 2 (.int .u8 D2))
        have hg1 := only_set w2 w.heap.size 1 (.int .u8 D1)
        have hg2 := only_set (w2.setCell ⟨w.heap.size, 1, none⟩ (.int .u8 D1)) w.heap.size 2 (.int .u8 D2)
        have HA := hs.bk ((HM2.out.ans.grown hg1 (by simp; omega)).grown hg2 (by simp; omega))
        have hbel := hs.bel (only_below (only_below HM2.out.bel hg1 HM2.out.bel.size (Nat.le_refl _)) hg2 (Nat.le_trans HM2.out.bel.size hg1.size) (Nat.le_refl _))
        have i0 := HI.cell 0 rfl
        have i1 := HI.cell 1 rfl
        have i2 := HI.cell 2 rfl
        have i3 := HI.cell 3 rfl
        have a0 := HA.cell 0 rfl
        have a1 := HA.cell 1 rfl
        have a2 := HA.cell 2 rfl
        have a3 := HA.cell 3 rfl
        have g0 := HA.fz 0
        have g1 := HA.fz 1
        have g2 := HA.fz 2
        have g3 := HA.fz 3
        have Hlast := Lib.hid (ans_set HA hbel c D1 D2 k)
        clear HI HA hbel hg1 hg2 hs q0 q1 q2 q3 f1 f2 HM2 Far1 Far2 C Al
        go_wp2_with fail
        clear a0 a1 a2 a3 g0 g1 g2 g3 i0 i1 i2 i3
        revert Hlast
        generalize ((((w3.setCell ⟨w.heap.size + 1 + 1 + 1, 0, none⟩ (.int .u16 c)).setCell ⟨w.heap.size + 1 + 1 + 1, 1, none⟩ (.int .u8 D1)).setCell ⟨w.heap.size + 1 + 1 + 1, 2, none⟩ (.int .u8 D2)).setCell ⟨w.heap.size + 1 + 1 + 1, 3, none⟩ (.int .u32 k)) = w5
        intro Hlast
        have r0 := Hlast.out.1.cell 0 rfl
        have r1 := Hlast.out.1.cell 1 rfl
        have r2 := Hlast.out.1.cell 2 rfl
        have r3 := Hlast.out.1.cell 3 rfl
        exact bodyPost_ret (v := .agg #[.int .u16 c, .int .u8 D1, .int .u8 D2, .int .u32 k]) (by simp [results, Try.results52, go_sem, r0, r1, r2, r3]) rfl ⟨rfl, Hlast.out.2⟩
  · have hmv : mv p ⟨c, t, f, k⟩ a = ⟨c, t, f, k⟩ := mv_same (by show c % 8 ≠ 5; rw [← hr]; exact h5)
    rw [hmv]
    have e1 : ((r : Int) != 5) = true := by simp; omega
    have e2 : ((r : Int) == 5) = false := by simp; omega
    clear hr hp hmv hto h5
    go_enter Try.func52, Try.ntmps52
    go_wp2_with fail
    refine (C.out _).mono ?_
    rintro e w' ⟨rfl, rfl⟩
    go_wp2_with fail
    have HE := Lib.hid (((((Below.refl w.heap.size w).alloc (Nat.le_refl _) (.cells #[.int .u16 c, .int .u8 t, .int .u8 f, .int .u32 k] 60)).alloc (by simp) (.cells #[.int .i64 a] 3)).alloc (by simp; omega) (.cells #[.slice (some ⟨gp, 0, none⟩) N N] 76)).alloc (by simp; omega) (.cells #[.int .u16 c, .int .u8 t, .int .u8 f, .int .u32 k] 60))
    exact bodyPost_ret (v := .agg #[.int .u16 c, .int .u8 t, .int .u8 f, .int .u32 k]) (by simp [results, Try.results52, go_sem]) rfl ⟨rfl, HE.out⟩
end Go.Proofs.Ytnkffjdoillmaaa
