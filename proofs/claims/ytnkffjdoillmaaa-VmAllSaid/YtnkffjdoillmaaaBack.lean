/- slices.Backward over instructions: the last first. -/
import Derived.RangeFuncNested
import Derived.RangeFuncBound
import Derived.RangeFuncCalls
import Derived.RangeFuncLeaves
import Derived.Shelf.Abstract
import Derived.Shelf.RegionOpen
import Derived.WalkKit
import Derived.OwnWalkIn
import Derived.TacticsInMore
import Derived.LoopNIn
import Derived.LoopIn
import Derived.Test.YtnkffjdoillmaaaReach
import Derived.Test.YtnkffjdoillmaaaStripM
namespace Go.Proofs.Ytnkffjdoillmaaa
open Go.RowKit Go.Shelf
attribute [local go_sem] Oper.semAt_some
abbrev At (n : Nat) := { k : Nat // k < n }
/-- What is handed out: a place, its instruction. -/
def handed (l : List Ins) (n : Nat) (x : At n) : Array Value := #[.int .i64 (x.1 : Int), .agg #[.int .u16 (at0 l x.1).c, .int .u8 (at0 l x.1).t, .int .u8 (at0 l x.1).f, .int .u32 (at0 l x.1).k]]
/-- What has come when so many rounds are over. -/
def down {n : Nat} (h : 0 < n) (k : Nat) : List (At n) := (List.range k).map fun j => ⟨n - 1 - j, by omega⟩
theorem down_succ {n : Nat} (h : 0 < n) (k : Nat) : down h (k + 1) = down h k ++ [⟨n - 1 - k, by omega⟩] := by simp [down, List.range_succ]
theorem down_len {n : Nat} (h : 0 < n) (k : Nat) : (down h k).length = k := by simp [down]
/-- What a round keeps: what lay below, and the box. -/
structure KB (n₀ Bs : Nat) (W W' : World) : Prop where
  bel : Below n₀ W W'
  box : W'.heap[Bs]? = W.heap[Bs]?
theorem KB.refl (n₀ Bs : Nat) (W : World) : KB n₀ Bs W W := ⟨Below.refl _ _, rfl⟩
theorem KB.trans {n₀ Bs : Nat} {A B C : World} (h : KB n₀ Bs A B) (k : KB n₀ Bs B C) : KB n₀ Bs A C := ⟨h.bel.trans k.bel, k.box.trans h.box⟩
theorem kb_put {n₀ Bs : Nat} {w : World} (hn : n₀ ≤ w.heap.size) (hB : Bs < w.heap.size) (W : World) (l : Nat) (o o' : Obj) (hl : w.heap.size ≤ l) (h : W.heap[l]? = some o) (h2 : o.isCells = false) (h3 : o.isWalk = false) : KB n₀ Bs W (W.putObj l o') :=
  ⟨belowK_b hn W l o o' hl h h2 h3, (grownBy_putObj' W l o').block Bs (by have := (Array.getElem?_eq_some_iff.1 h).1; omega) (by intro e; cases e; omega)⟩
theorem KB.cell {n₀ Bs : Nat} {W W' : World} (h : KB n₀ Bs W W') : W'.cell? ⟨Bs, 0, none⟩ = W.cell? ⟨Bs, 0, none⟩ := by unfold World.cell?; rw [h.box]
set_option maxRecDepth 100000 in
set_option maxHeartbeats 2000000 in
theorem back1 (m : Nat) (hm : 1 ≤ m) (L Bs n₀ b off n cap : Nat) (h0n : 0 < n) (hn : n ≤ 65536) (l : List Ins) (hb : b < n₀) (J Jx : List (At n) → World → Prop)
    (hY : ∀ pre x W, J pre W → pre.length < n → YieldAt Fence.wide (m - 1) Try.prog L (handed l n x) W fun e W' =>
      (e = .returned (.bool true) ∧ J (pre ++ [x]) W' ∧ KB n₀ Bs W W') ∨ (e = .returned (.bool false) ∧ Jx (pre ++ [x]) W'))
    (W : World) (hBs : W.cell? ⟨Bs, 0, none⟩ = some (.slice (some ⟨b, off, none⟩) n cap)) 
    (hc : ∀ j, j < n → W.cell? ⟨b, off + j * 4, none⟩ = some (.int .u16 (at0 l j).c) ∧ W.cell? ⟨b, off + j * 4 + 1, none⟩ = some (.int .u8 (at0 l j).t) ∧ W.cell? ⟨b, off + j * 4 + 2, none⟩ = some (.int .u8 (at0 l j).f) ∧ W.cell? ⟨b, off + j * 4 + 3, none⟩ = some (.int .u32 (at0 l j).k))
    (h0 : J [] W) :
    CallsIn Fence.wide m Try.prog 65 #[.func (.yield L) #[] #[], .pointer (some ⟨Bs, 0, none⟩)] W fun e W' => (∃ v, e = .returned v) ∧
      ((∃ ys, ys = down h0n n ∧ J ys W') ∨ (∃ pre, True ∧ Jx pre W')) := by
  refine callsIn_of_wp Try.func65 rfl trivial ?_ rfl
  simp only [Try.ntmps65, List.size_toArray, List.length_cons, List.length_nil, Nat.reduceAdd, Nat.reduceSub, Array.replicate_succ, Array.replicate_zero, List.push_toArray, List.append_toArray, List.nil_append, List.cons_append]
  gi_wp2
  gi_loopw [3] (fun i wr => ∃ (p : Nat) (z : Int), p ≤ n ∧ z + 1 = p ∧ i = .int .i64 z ∧ Hid (J (down h0n (n - p)) wr) ∧ Hid (KB n₀ Bs W wr))
    (fun i _ => (intOf i + 1).toNat)
  case atStart => exact ⟨n, (n : Int) - 1, Nat.le_refl _, by omega, rfl, by rw [Nat.sub_self]; exact h0, KB.refl _ _ _⟩
  case round =>
    obtain ⟨p, z, hp, hz, rfl, HJ, Hnx⟩ := hrel
    have hsl : wr.cell? ⟨Bs, 0, none⟩ = some (.slice (some ⟨b, off, none⟩) n cap) := Hnx.out.cell.trans hBs
    by_cases hlt : 0 < p
    · obtain ⟨q, rfl⟩ : ∃ q, p = q + 1 := ⟨p - 1, by omega⟩
      obtain rfl : z = (q : Int) := by omega
      have hq : q < n := by omega
      have hnext : down h0n (n - q) = down h0n (n - (q + 1)) ++ [⟨q, hq⟩] := by
        rw [show n - q = n - (q + 1) + 1 by omega, down_succ]
        congr 2
        exact Subtype.ext (by show n - 1 - (n - (q + 1)) = q; omega)
      obtain ⟨fn, tmps, assign, body, hy, hR⟩ := hY _ ⟨q, hq⟩ wr HJ.out (by rw [down_len]; omega)
      have HR := Lib.hid hR
      dsimp only [handed] at hy
      obtain ⟨e0, e1, e2, e3⟩ := hc q hq
      have hk : ∀ j, wr.cell? ⟨b, j, none⟩ = W.cell? ⟨b, j, none⟩ := fun j => Hnx.out.bel.cell (p := ⟨b, j, none⟩) hb
      rw [← hk] at e0 e1 e2 e3
      have Hn := Lib.hid hnext
      clear hR hnext hk hz
      gi_wp2
      refine HR.out.mono ?_
      rintro e W3 (⟨rfl, hJ3, hk3⟩ | ⟨rfl, hJx3⟩)
      · have HE := Lib.hid (show J (down h0n (n - q)) W3 from by rw [Hn.out]; exact hJ3)
        have HB := Lib.hid (Hnx.out.trans hk3)
        clear hJ3 hk3
        gi_wp2
        go_roundw
        case rel => exact ⟨q, (q : Int) - 1, by omega, by omega, by go_num, HE, HB⟩
        case measure => simp [intOf]
      · gi_wp2
        refine bodyPost_ret (results_none rfl _ _ _) rfl ?_
        exact ⟨⟨_, rfl⟩, .inr ⟨_, trivial, hJx3⟩⟩
    · obtain rfl : p = 0 := by omega
      obtain rfl : z = -1 := by omega
      gi_wp2
      go_end0
      exact ⟨⟨_, rfl⟩, .inl ⟨_, rfl, HJ.out⟩⟩
set_option maxHeartbeats 1000000 in
/-- The slice is boxed; the function value captures the box. -/
theorem backward_in (m : Nat) (A : Option Addr) (n cap : Nat) (w : World) :
    CallsIn Fence.wide m Try.prog 45 #[.slice A n cap] w fun e w' => e = .returned (.func (.func 65) #[] #[.pointer (some ⟨w.heap.size, 0, none⟩)]) ∧ w' = w.alloc (.cells #[.slice A n cap] 22) := by
  refine callsIn_of_wp Try.func45 rfl trivial ?_ rfl
  simp only [Try.ntmps45, List.size_toArray, List.length_cons, List.length_nil, Nat.reduceAdd, Nat.reduceSub, Array.replicate_succ, Array.replicate_zero, List.push_toArray, List.append_toArray, List.nil_append, List.cons_append]
  gi_wp2
  go_ret
  exact ⟨rfl, rfl⟩
theorem back_stops (m : Nat) (hm : 1 ≤ m) (Bs n₀ b off n cap : Nat) (h0n : 0 < n) (hn : n ≤ 65536) (l : List Ins) (hl : l.length = n) (hb : b < n₀) (w : World) (hBn : Bs < w.heap.size) (hn₀ : n₀ ≤ w.heap.size)
    (hBs : w.cell? ⟨Bs, 0, none⟩ = some (.slice (some ⟨b, off, none⟩) n cap)) (hc : ∀ j u, (l.flatMap Ins.cells)[j]? = some u → w.cell? ⟨b, off + j, none⟩ = some u) :
    SeqStopsK Fence.wide m Try.prog 65 #[.pointer (some ⟨Bs, 0, none⟩)] (handed l n) (KB n₀ Bs) (fun ys => ys = down h0n n) (fun _ => True) n w := fun L J Jx W hW _ _ hY h0 => by
  have hW' := hW.mono hn₀
  refine back1 m hm L Bs n₀ b off n cap h0n hn l hb J Jx hY W ((hW.cell (p := ⟨Bs, 0, none⟩) hBn).trans hBs) (fun j hj => ?_) h0
  have hx : l[j]? = some (at0 l j) := by
    unfold at0
    rw [List.getD_eq_getElem?_getD, List.getElem?_eq_getElem (by omega)]; rfl
  obtain ⟨q0, q1, q2, q3⟩ := four_cells hc hx
  have hk : ∀ j, W.cell? ⟨b, j, none⟩ = w.cell? ⟨b, j, none⟩ := fun j => hW'.cell (p := ⟨b, j, none⟩) hb
  exact ⟨(hk _).trans q0, (hk _).trans q1, (hk _).trans q2, (hk _).trans q3⟩
end Go.Proofs.Ytnkffjdoillmaaa

