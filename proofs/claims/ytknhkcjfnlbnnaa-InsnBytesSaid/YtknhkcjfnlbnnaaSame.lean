/- same: of two lists that read alike. -/
import Derived.Test.YtknhkcjfnlbnnaaDecode
import Derived.Deep.QuietTactic
import Derived.BigQuiet
import Derived.Laws.StructEq
namespace Go.Proofs.Ytknhkcjfnlbnnaa
open Go.RowKit
theorem drewN_two (w : World) (a b : Nat) : (w.drewN a).drewN b = w.drewN (a + b) := by
  unfold World.drewN; simp [Nat.add_assoc]
theorem below_drewN' {B : Nat} {a w : World} (h : Below B a w) (n : Nat) : Below B a (w.drewN n) := ⟨h.os, h.tape, h.output, h.size, h.block⟩
set_option maxRecDepth 100000 in
set_option maxHeartbeats 1000000 in
theorem same_any (l : List Ins) (n : Nat) (A B : Option Addr) (ca cb : Nat) (w : World) (hl : l.length = n) (hn : n ≤ 65536) (ha : Rd w 4 n A (l.flatMap Ins.cells)) (hb : Rd w 4 n B (l.flatMap Ins.cells)) :
    Calls Try.prog 16 #[.slice A n ca, .slice B n cb] w fun e w' => e = .returned (.bool true) ∧ ∃ q, w' = w.drewN q := by
  have Hl := Lib.hid hl
  have Ha := Lib.hid ha
  have Hb := Lib.hid hb
  clear hl ha hb
  go_enter Try.func16, Try.ntmps16
  go_wp2
  go_loopw [13] (fun i wr => ∃ k q : Nat, k ≤ n ∧ i = .int .i64 k ∧ wr = w.drewN q) (fun i _ => n - (intOf i).toNat)
  case atStart => exact ⟨0, 0, by omega, rfl, rfl⟩
  case round =>
    obtain ⟨k, q, hk, rfl, rfl⟩ := hrel
    by_cases hlt : k < n
    · obtain ⟨x, hx⟩ : ∃ x, l[k]? = some x := ⟨_, List.getElem?_eq_getElem (by have := Hl.out; omega)⟩
      obtain ⟨b1, o1, hA, _, hcells1⟩ := Ha.out.pos (by omega)
      obtain ⟨b2, o2, hB, _, hcells2⟩ := Hb.out.pos (by omega)
      obtain ⟨q0, q1, q2, q3⟩ := four_cells hcells1 hx
      obtain ⟨r0, r1, r2, r3⟩ := four_cells hcells2 hx
      obtain ⟨c, hc⟩ : ∃ c, c = x.c := ⟨_, rfl⟩
      obtain ⟨t, ht⟩ : ∃ c, c = x.t := ⟨_, rfl⟩
      obtain ⟨f, hf⟩ : ∃ c, c = x.f := ⟨_, rfl⟩
      obtain ⟨y, hy⟩ : ∃ c, c = x.k := ⟨_, rfl⟩
      rw [← hc] at q0 r0
      rw [← ht] at q1 r1
      rw [← hf] at q2 r2
      rw [← hy] at q3 r3
      subst hA hB
      clear hcells1 hcells2 hx hc ht hf hy
      go_wp2_with fail
      go_quiet (fail)
      go_wp2
      go_roundw
      case rel => exact ⟨k + 1, q + nq, by omega, by go_num, rfl⟩
      case measure => simp [intOf]; omega
    · obtain rfl : k = n := by omega
      go_wp2_with fail
      go_ret
      exact ⟨rfl, _, rfl⟩
theorem same_below (l : List Ins) (n : Nat) (A B : Option Addr) (ca cb : Nat) (w : World) (hl : l.length = n) (hn : n ≤ 65536) (ha : Rd w 4 n A (l.flatMap Ins.cells)) (hb : Rd w 4 n B (l.flatMap Ins.cells)) :
    Calls Try.prog 16 #[.slice A n ca, .slice B n cb] w fun e w' => e = .returned (.bool true) ∧ Below w.heap.size w w' := by
  refine (same_any l n A B ca cb w hl hn ha hb).mono ?_
  rintro e w' ⟨rfl, q, rfl⟩
  exact ⟨rfl, below_drewN' (Below.refl _ _) q⟩
/-- Behind a step of what stays. -/
theorem step2 {X : Prop} {wx wA wB : World} (hb : Below wA.heap.size wA wB) (h : X ∧ Hid (Below wx.heap.size wx wA)) : Below wx.heap.size wx wB := h.2.out.trans (hb.mono h.2.out.size)
theorem step1 {X : Prop} {wx wA : World} (h : X ∧ Hid (Below wx.heap.size wx wA)) : Below wx.heap.size wx wA := h.2.out
end Go.Proofs.Ytknhkcjfnlbnnaa
