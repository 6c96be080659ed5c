/- slices.Backward over filters: the last first; a round may write whatever filters it likes. -/
import Derived.RangeFuncNested
import Derived.RangeFuncBound
import Derived.RangeFuncCalls
import Derived.RangeFuncLeaves
import Derived.Shelf.Abstract
import Derived.Shelf.RegionOpen
import Derived.WalkKit
import Derived.OwnWalkIn
import Derived.TacticsInMore
import Derived.LoopNIn
import Derived.LoopIn
import Derived.Test.YtnkffjdoillmaaaLoad
import Derived.Test.YtnkffjdoillmaaaBack
namespace Go.Proofs.Ytnkffjdoillmaaa
open Go.RowKit Go.Shelf
attribute [local go_sem] Oper.semAt_some
/-- What is handed out: a place, its filter. -/
def handedF (P : Nat → Nat) (n : Nat) (x : At n) : Array Value := #[.int .i64 (x.1 : Int), .pointer (some ⟨P x.1, 0, none⟩)]
/-- What a round keeps: the list's block, and the box. -/
structure KF (b Bs : Nat) (W W' : World) : Prop where
  row : W'.heap[b]? = W.heap[b]?
  box : W'.heap[Bs]? = W.heap[Bs]?
theorem KF.refl (b Bs : Nat) (W : World) : KF b Bs W W := ⟨rfl, rfl⟩
theorem KF.trans {b Bs : Nat} {A B C : World} (h : KF b Bs A B) (k : KF b Bs B C) : KF b Bs A C := ⟨k.row.trans h.row, k.box.trans h.box⟩
theorem kf_put {b Bs : Nat} {w : World} (hb : b < w.heap.size) (hB : Bs < w.heap.size) (W : World) (l : Nat) (o o' : Obj) (hl : w.heap.size ≤ l) (h : W.heap[l]? = some o) (_h2 : o.isCells = false) (_h3 : o.isWalk = false) : KF b Bs W (W.putObj l o') := by
  have hls := (Array.getElem?_eq_some_iff.1 h).1
  exact ⟨(grownBy_putObj' W l o').block b (by omega) (by intro e; cases e; omega), (grownBy_putObj' W l o').block Bs (by omega) (by intro e; cases e; omega)⟩
theorem KF.cell {b Bs : Nat} {W W' : World} (h : KF b Bs W W') : W'.cell? ⟨Bs, 0, none⟩ = W.cell? ⟨Bs, 0, none⟩ := by unfold World.cell?; rw [h.box]
theorem KF.at_ {b Bs : Nat} {W W' : World} (h : KF b Bs W W') (j : Nat) : W'.cell? ⟨b, j, none⟩ = W.cell? ⟨b, j, none⟩ := by unfold World.cell?; rw [h.row]
set_option maxRecDepth 100000 in
set_option maxHeartbeats 2000000 in
theorem backF1 (m : Nat) (hm : 1 ≤ m) (L Bs b off n cap : Nat) (h0n : 0 < n) (hn : n ≤ 65536) (P : Nat → Nat) (J Jx : List (At n) → World → Prop)
    (hY : ∀ pre x W, J pre W → pre.length < n → YieldAt Fence.wide (m - 1) Try.prog L (handedF P n x) W fun e W' =>
      (e = .returned (.bool true) ∧ J (pre ++ [x]) W' ∧ KF b Bs W W') ∨ (e = .returned (.bool false) ∧ Jx (pre ++ [x]) W'))
    (W : World) (hBs : W.cell? ⟨Bs, 0, none⟩ = some (.slice (some ⟨b, off, none⟩) n cap))
    (hc : ∀ j, j < n → W.cell? ⟨b, off + j, none⟩ = some (.pointer (some ⟨P j, 0, none⟩)))
    (h0 : J [] W) :
    CallsIn Fence.wide m Try.prog 68 #[.func (.yield L) #[] #[], .pointer (some ⟨Bs, 0, none⟩)] W fun e W' => (∃ v, e = .returned v) ∧
      ((∃ ys, ys = down h0n n ∧ J ys W') ∨ (∃ pre, True ∧ Jx pre W')) := by
  refine callsIn_of_wp Try.func68 rfl trivial ?_ rfl
  simp only [Try.ntmps68, List.size_toArray, List.length_cons, List.length_nil, Nat.reduceAdd, Nat.reduceSub, Array.replicate_succ, Array.replicate_zero, List.push_toArray, List.append_toArray, List.nil_append, List.cons_append]
  gi_wp2
  gi_loopw [3] (fun i wr => ∃ (p : Nat) (z : Int), p ≤ n ∧ z + 1 = p ∧ i = .int .i64 z ∧ Hid (J (down h0n (n - p)) wr) ∧ Hid (KF b Bs W wr))
    (fun i _ => (intOf i + 1).toNat)
  case atStart => exact ⟨n, (n : Int) - 1, Nat.le_refl _, by omega, rfl, by rw [Nat.sub_self]; exact h0, KF.refl _ _ _⟩
  case round =>
    obtain ⟨p, z, hp, hz, rfl, HJ, Hnx⟩ := hrel
    have hsl : wr.cell? ⟨Bs, 0, none⟩ = some (.slice (some ⟨b, off, none⟩) n cap) := Hnx.out.cell.trans hBs
    by_cases hlt : 0 < p
    · obtain ⟨q, rfl⟩ : ∃ q, p = q + 1 := ⟨p - 1, by omega⟩
      obtain rfl : z = (q : Int) := by omega
      have hq : q < n := by omega
      have hnext : down h0n (n - q) = down h0n (n - (q + 1)) ++ [⟨q, hq⟩] := by
        rw [show n - q = n - (q + 1) + 1 by omega, down_succ]
        congr 2
        exact Subtype.ext (by show n - 1 - (n - (q + 1)) = q; omega)
      obtain ⟨fn, tmps, assign, body, hy, hR⟩ := hY _ ⟨q, hq⟩ wr HJ.out (by rw [down_len]; omega)
      have HR := Lib.hid hR
      dsimp only [handedF] at hy
      have e0 := hc q hq
      rw [← Hnx.out.at_] at e0
      have Hn := Lib.hid hnext
      clear hR hnext hz
      gi_wp2
      refine HR.out.mono ?_
      rintro e W3 (⟨rfl, hJ3, hk3⟩ | ⟨rfl, hJx3⟩)
      · have HE := Lib.hid (show J (down h0n (n - q)) W3 from by rw [Hn.out]; exact hJ3)
        have HB := Lib.hid (Hnx.out.trans hk3)
        clear hJ3 hk3
        gi_wp2
        go_roundw
        case rel => exact ⟨q, (q : Int) - 1, by omega, by omega, by go_num, HE, HB⟩
        case measure => simp [intOf]
      · gi_wp2
        refine bodyPost_ret (results_none rfl _ _ _) rfl ?_
        exact ⟨⟨_, rfl⟩, .inr ⟨_, trivial, hJx3⟩⟩
    · obtain rfl : p = 0 := by omega
      obtain rfl : z = -1 := by omega
      gi_wp2
      go_end0
      exact ⟨⟨_, rfl⟩, .inl ⟨_, rfl, HJ.out⟩⟩
set_option maxHeartbeats 1000000 in
theorem backwardF_in (m : Nat) (A : Option Addr) (n cap : Nat) (w : World) :
    CallsIn Fence.wide m Try.prog 49 #[.slice A n cap] w fun e w' => e = .returned (.func (.func 68) #[] #[.pointer (some ⟨w.heap.size, 0, none⟩)]) ∧ w' = w.alloc (.cells #[.slice A n cap] 63) := by
  refine callsIn_of_wp Try.func49 rfl trivial ?_ rfl
  simp only [Try.ntmps49, List.size_toArray, List.length_cons, List.length_nil, Nat.reduceAdd, Nat.reduceSub, Array.replicate_succ, Array.replicate_zero, List.push_toArray, List.append_toArray, List.nil_append, List.cons_append]
  gi_wp2
  go_ret
  exact ⟨rfl, rfl⟩
theorem backF_stops (m : Nat) (hm : 1 ≤ m) (Bs b off n cap : Nat) (h0n : 0 < n) (hn : n ≤ 65536) (P : Nat → Nat) (w : World) (hBn : Bs < w.heap.size) (hbn : b < w.heap.size)
    (hBs : w.cell? ⟨Bs, 0, none⟩ = some (.slice (some ⟨b, off, none⟩) n cap)) (hc : ∀ j, j < n → w.cell? ⟨b, off + j, none⟩ = some (.pointer (some ⟨P j, 0, none⟩))) :
    SeqStopsK Fence.wide m Try.prog 68 #[.pointer (some ⟨Bs, 0, none⟩)] (handedF P n) (KF b Bs) (fun ys => ys = down h0n n) (fun _ => True) n w := fun L J Jx W hW _ _ hY h0 =>
  backF1 m hm L Bs b off n cap h0n hn P J Jx hY W ((hW.cell (p := ⟨Bs, 0, none⟩) hBn).trans hBs) (fun j hj => (hW.cell (p := ⟨b, off + j, none⟩) hbn).trans (hc j hj)) h0
end Go.Proofs.Ytnkffjdoillmaaa
