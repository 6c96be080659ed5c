/- CheckScratch: the walk. -/
import Derived.Test.YtnkffjdoillmaaaAwake
import Derived.Deep.RegionHeld
import Derived.OpenShut
import Derived.Deep.Cut
namespace Go.Proofs.Ytnkffjdoillmaaa
open Go.RowKit
/-- What a step keeps: want's cells. -/
structure Want (w wr : World) (gw a e : Nat) : Prop where
  bk : Bk wr gw 31 [.int .i64 a, .int .i64 e]
  hg : w.heap.size ≤ gw
  bel : Below w.heap.size w wr
theorem Want.kept {w wr w' : World} {gw a e : Nat} (h : Want w wr gw a e) (hb : Below wr.heap.size wr w') : Want w w' gw a e := ⟨h.bk.kept hb, h.hg, h.bel.trans (hb.mono h.bel.size)⟩
theorem Want.set {w wr : World} {gw a e : Nat} (h : Want w wr gw a e) (a' e' : Nat) : Want w ((wr.setCell ⟨gw, 0, none⟩ (.int .i64 a')).setCell ⟨gw, 1, none⟩ (.int .i64 e')) gw a' e' :=
  ⟨(h.bk.set 0 (.int .i64 a')).set 1 (.int .i64 e'), h.hg, (h.bel.setCell (p := ⟨gw, 0, none⟩) h.hg _).setCell (p := ⟨gw, 1, none⟩) h.hg _⟩
theorem scr_ok {a b : Nat} (ha : a < 16) (hb : b < 16) : ∀ i ∈ scrL a b, i.ok := by
  intro i hi
  simp only [scrL, List.mem_cons, List.not_mem_nil, or_false] at hi
  rcases hi with rfl | rfl | rfl | rfl | rfl | rfl | rfl <;> (simp [Ins.ok]; try omega)
theorem both_ok {a b : Nat} (ha : a < 16) (hb : b < 16) : ∀ i ∈ bothL a b, i.ok := by
  intro i hi
  rcases List.mem_cons.1 hi with rfl | hi
  · simp [Ins.ok]; omega
  · exact scr_ok ha hb i hi
theorem first_ok {a : Nat} (ha : a < 16) : ∀ i ∈ [(⟨97, 0, 0, a⟩ : Ins), ret 1], i.ok := by
  intro i hi
  simp only [List.mem_cons, List.not_mem_nil, or_false] at hi
  rcases hi with rfl | rfl
  · simp [Ins.ok]; omega
  · simp [Ins.ok, ret]
/-- Behind a step of what stays. -/
theorem step2 {X : Prop} {wx wA wB : World} (hb : Below wA.heap.size wA wB) (h : X ∧ Hid (Below wx.heap.size wx wA)) : Below wx.heap.size wx wB := h.2.out.trans (hb.mono h.2.out.size)
theorem step1 {X : Prop} {wx wA : World} (h : X ∧ Hid (Below wx.heap.size wx wA)) : Below wx.heap.size wx wA := h.2.out
theorem want_new {w w5 : World} {o : Obj} {a e : Nat} (h : Below w.heap.size w w5) : Want w ((w5.alloc o).alloc (.cells #[.int .i64 a, .int .i64 e] 31)) (w5.heap.size + 1) a e := by
  have hb := Bk.new (w5.alloc o) 31 #[.int .i64 a, .int .i64 e] rfl
  rw [World.size_alloc] at hb
  exact ⟨hb, Nat.le_trans h.size (by omega), (h.alloc h.size _).alloc (Nat.le_trans h.size (by simp)) _⟩
theorem add_at' (b o j : Nat) : (⟨b, o, none⟩ : Addr).add j = ⟨b, o + j, none⟩ := by unfold Addr.add; split <;> simp_all
theorem flat_one (l : List Ins) : ∀ u ∈ l.flatMap Ins.cells, u.oneCell' = true := by
  intro u hu
  obtain ⟨i, _, hi⟩ := List.mem_flatMap.1 hu
  exact cells_one i u hi
theorem want_grown {w wr w' : World} {gw a e g : Nat} (h : Want w wr gw a e) (hlt : gw < g) (hg : wr.grownBy w' (some g)) : Want w w' gw a e :=
  ⟨h.bk.grown hg (by simp; omega), h.hg, only_below h.bel hg h.bel.size (by have := h.hg; omega)⟩
theorem rd_want {w w9 : World} {gw a e n B : Nat} {A : Option Addr} {xs : List Value} {v0 v1 : Value} (h : Seg w9 B 4 n A xs) (_hw : Want w w9 gw a e) (hlt : gw < B) : Rd ((w9.setCell ⟨gw, 0, none⟩ v0).setCell ⟨gw, 1, none⟩ v1) 4 n A xs :=
  ((h.grown (only_set _ gw 0 v0) hlt).grown (only_set _ gw 1 v1) hlt).rd
end Go.Proofs.Ytnkffjdoillmaaa

