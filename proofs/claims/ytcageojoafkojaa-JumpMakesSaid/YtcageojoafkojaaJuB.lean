/- slices.Backward over parts: the last first. -/
import Derived.RangeFuncNested
import Derived.RangeFuncBound
import Derived.RangeFuncCalls
import Derived.RangeFuncLeaves
import Derived.Shelf.Abstract
import Derived.Shelf.RegionOpen
import Derived.WalkKit
import Derived.OwnWalkIn
import Derived.TacticsInMore
import Derived.LoopNIn
import Derived.LoopIn
import Derived.Test.YtcageojoafkojaaJuK
namespace Go.Proofs.Ytcageojoafkojaa.Ju
open Go.RowKit Go.Shelf
attribute [local go_sem] Oper.semAt_some
/-- A place of a list and the part there. -/
abbrev Pa (l : List PtM) := { x : Nat × PtM // l[x.1]? = some x.2 }
def Pa.pt {l : List PtM} (x : Pa l) : PtM := x.1.2
def handed {l : List PtM} (x : Pa l) : Array Value := #[.int .i64 (x.1.1 : Int), .agg #[.int .u8 x.1.2.kd, .int .i64 x.1.2.to, .int .i64 x.1.2.el, .int .u16 x.1.2.i.c, .int .u8 x.1.2.i.t, .int .u8 x.1.2.i.f, .int .u32 x.1.2.i.k]]
/-- What a round keeps: what lay below, and the box. -/
structure KB (n₀ Bs : Nat) (W W' : World) : Prop where
  bel : Below n₀ W W'
  box : W'.heap[Bs]? = W.heap[Bs]?
theorem KB.refl (n₀ Bs : Nat) (W : World) : KB n₀ Bs W W := ⟨Below.refl _ _, rfl⟩
theorem KB.trans {n₀ Bs : Nat} {A B C : World} (h : KB n₀ Bs A B) (k : KB n₀ Bs B C) : KB n₀ Bs A C := ⟨h.bel.trans k.bel, k.box.trans h.box⟩
theorem kb_put {n₀ Bs : Nat} {w : World} (hn : n₀ ≤ w.heap.size) (hB : Bs < w.heap.size) (W : World) (l : Nat) (o o' : Obj) (hl : w.heap.size ≤ l) (h : W.heap[l]? = some o) (h2 : o.isCells = false) (h3 : o.isWalk = false) : KB n₀ Bs W (W.putObj l o') :=
  ⟨belowK_b hn W l o o' hl h h2 h3, (grownBy_putObj' W l o').block Bs (by have := (Array.getElem?_eq_some_iff.1 h).1; omega) (by intro e; cases e; omega)⟩
theorem KB.cell {n₀ Bs : Nat} {W W' : World} (h : KB n₀ Bs W W') : W'.cell? ⟨Bs, 0, none⟩ = W.cell? ⟨Bs, 0, none⟩ := by unfold World.cell?; rw [h.box]
theorem rev_drop {l : List PtM} {q : Nat} {x : PtM} (h : l[q]? = some x) : (l.drop q).reverse = (l.drop (q + 1)).reverse ++ [x] := by
  obtain ⟨h1, h2⟩ := List.getElem?_eq_some_iff.1 h
  rw [List.drop_eq_getElem_cons h1, h2, List.reverse_cons]
set_option maxRecDepth 100000 in
set_option maxHeartbeats 2000000 in
theorem back1 (m : Nat) (hm : 1 ≤ m) (L Bs n₀ n cap : Nat) (A : Option Addr) (hn : n ≤ 65536) (l : List PtM) (hl : l.length = n) (J Jx : List (Pa l) → World → Prop)
    (hY : ∀ pre x W, J pre W → pre.length < n → YieldAt Fence.wide (m - 1) Try.prog L (handed x) W fun e W' =>
      (e = .returned (.bool true) ∧ J (pre ++ [x]) W' ∧ KB n₀ Bs W W') ∨ (e = .returned (.bool false) ∧ Jx (pre ++ [x]) W'))
    (W : World) (hBs : W.cell? ⟨Bs, 0, none⟩ = some (.slice A n cap))
    (hR : ∀ W', Below n₀ W W' → Rd W' 7 n A (l.flatMap PtM.cells))
    (h0 : J [] W) :
    CallsIn Fence.wide m Try.prog 75 #[.func (.yield L) #[] #[], .pointer (some ⟨Bs, 0, none⟩)] W fun e W' => (∃ v, e = .returned v) ∧
      ((∃ ys : List (Pa l), ys.map Pa.pt = l.reverse ∧ J ys W') ∨ (∃ pre : List (Pa l), (∃ q, pre.map Pa.pt = (l.drop q).reverse) ∧ Jx pre W')) := by
  have HR0 := Lib.hid hR
  clear hR
  refine callsIn_of_wp Try.func75 rfl trivial ?_ rfl
  simp only [Try.ntmps75, List.size_toArray, List.length_cons, List.length_nil, Nat.reduceAdd, Nat.reduceSub, Array.replicate_succ, Array.replicate_zero, List.push_toArray, List.append_toArray, List.nil_append, List.cons_append]
  gi_wp2
  gi_loopw [3] (fun i wr => ∃ (p : Nat) (z : Int) (pre : List (Pa l)), p ≤ n ∧ z + 1 = p ∧ i = .int .i64 z ∧ Hid (J pre wr) ∧ Hid (pre.map Pa.pt = (l.drop p).reverse) ∧ Hid (KB n₀ Bs W wr))
    (fun i _ => (intOf i + 1).toNat)
  case atStart => exact ⟨n, (n : Int) - 1, [], Nat.le_refl _, by omega, rfl, h0, Lib.hid (by rw [List.drop_of_length_le (by omega)]; rfl), KB.refl _ _ _⟩
  case round =>
    obtain ⟨p, z, pre, hp, hz, rfl, HJ, HP, Hnx⟩ := hrel
    have hsl : wr.cell? ⟨Bs, 0, none⟩ = some (.slice A n cap) := Hnx.out.cell.trans hBs
    by_cases hlt : 0 < p
    · obtain ⟨q, rfl⟩ : ∃ q, p = q + 1 := ⟨p - 1, by omega⟩
      obtain rfl : z = (q : Int) := by omega
      have hq : q < n := by omega
      obtain ⟨x, hx⟩ : ∃ x, l[q]? = some x := ⟨_, List.getElem?_eq_getElem (by omega)⟩
      obtain ⟨b, o, hA, hbl, hcell⟩ := (HR0.out wr Hnx.out.bel).one (fun _ => rfl) (by omega) (by omega)
      obtain ⟨e0, e1, e2, e3, e4, e5, e6⟩ := seven_cells hcell hx
      subst hA
      have hprl : pre.length < n := by
        have := congrArg List.length HP.out
        simp at this; omega
      have HP2 := Lib.hid (show (pre ++ [(⟨(q, x), hx⟩ : Pa l)]).map Pa.pt = (l.drop q).reverse by rw [List.map_append, HP.out, rev_drop hx]; rfl)
      obtain ⟨fn, tmps, assign, body, hy, hR⟩ := hY _ ⟨(q, x), hx⟩ wr HJ.out hprl
      have HR := Lib.hid hR
      dsimp only [handed] at hy
      clear hR hz hcell hprl
      gi_wp2
      refine HR.out.mono ?_
      rintro e W3 (⟨rfl, hJ3, hk3⟩ | ⟨rfl, hJx3⟩)
      · have HE := Lib.hid hJ3
        have HB := Lib.hid (Hnx.out.trans hk3)
        clear hJ3 hk3
        gi_wp2
        go_roundw
        case rel => exact ⟨q, (q : Int) - 1, _, by omega, by omega, by go_num, HE, HP2, HB⟩
        case measure => simp [intOf]
      · gi_wp2
        refine bodyPost_ret (results_none rfl _ _ _) rfl ?_
        exact ⟨⟨_, rfl⟩, .inr ⟨_, ⟨_, HP2.out⟩, hJx3⟩⟩
    · obtain rfl : p = 0 := by omega
      obtain rfl : z = -1 := by omega
      gi_wp2
      go_end0
      exact ⟨⟨_, rfl⟩, .inl ⟨_, by rw [HP.out, List.drop_zero], HJ.out⟩⟩
set_option maxHeartbeats 1000000 in
/-- The slice is boxed; the function value captures the box. -/
theorem backward_in (m : Nat) (A : Option Addr) (n cap : Nat) (w : World) :
    CallsIn Fence.wide m Try.prog 48 #[.slice A n cap] w fun e w' => e = .returned (.func (.func 75) #[] #[.pointer (some ⟨w.heap.size, 0, none⟩)]) ∧ w' = w.alloc (.cells #[.slice A n cap] 65) := by
  refine callsIn_of_wp Try.func48 rfl trivial ?_ rfl
  simp only [Try.ntmps48, List.size_toArray, List.length_cons, List.length_nil, Nat.reduceAdd, Nat.reduceSub, Array.replicate_succ, Array.replicate_zero, List.push_toArray, List.append_toArray, List.nil_append, List.cons_append]
  gi_wp2
  go_ret
  exact ⟨rfl, rfl⟩
theorem back_stops (m : Nat) (hm : 1 ≤ m) (Bs n₀ n cap : Nat) (A : Option Addr) (hn : n ≤ 65536) (l : List PtM) (hl : l.length = n) (w : World) (hBn : Bs < w.heap.size) (hn₀ : n₀ ≤ w.heap.size)
    (hBs : w.cell? ⟨Bs, 0, none⟩ = some (.slice A n cap)) (hR : ∀ W', Below n₀ w W' → Rd W' 7 n A (l.flatMap PtM.cells)) :
    SeqStopsK Fence.wide m Try.prog 75 #[.pointer (some ⟨Bs, 0, none⟩)] (handed (l := l)) (KB n₀ Bs) (fun ys => ys.map Pa.pt = l.reverse) (fun pre => ∃ q, pre.map Pa.pt = (l.drop q).reverse) n w := fun L J Jx W hW _ _ hY h0 => by
  have hW' := hW.mono hn₀
  exact back1 m hm L Bs n₀ n cap A hn l hl J Jx hY W ((hW.cell (p := ⟨Bs, 0, none⟩) hBn).trans hBs) (fun W' h => hR W' (hW'.trans h)) h0
/-! The same over parts that a round may turn: what is handed out is whatever stands there. -/
structure KG (b Bs : Nat) (W W' : World) : Prop where
  row : ∀ cs t f, W.heap[b]? = some (.cells cs t f) → ∃ cs', W'.heap[b]? = some (.cells cs' t f) ∧ cs'.size = cs.size
  box : W'.heap[Bs]? = W.heap[Bs]?
theorem KG.refl (b Bs : Nat) (W : World) : KG b Bs W W := ⟨fun cs _ _ h => ⟨cs, h, rfl⟩, rfl⟩
theorem KG.trans {b Bs : Nat} {A B C : World} (h : KG b Bs A B) (k : KG b Bs B C) : KG b Bs A C :=
  ⟨fun cs t f hc => by obtain ⟨c1, h1, e1⟩ := h.row cs t f hc; obtain ⟨c2, h2, e2⟩ := k.row c1 t f h1; exact ⟨c2, h2, e2.trans e1⟩, k.box.trans h.box⟩
theorem kg_put {b Bs : Nat} {w : World} (hb : b < w.heap.size) (hB : Bs < w.heap.size) (W : World) (l : Nat) (o o' : Obj) (hl : w.heap.size ≤ l) (h : W.heap[l]? = some o) (_h2 : o.isCells = false) (_h3 : o.isWalk = false) : KG b Bs W (W.putObj l o') := by
  have hls := (Array.getElem?_eq_some_iff.1 h).1
  exact ⟨fun cs t f hc => ⟨cs, ((grownBy_putObj' W l o').block b (by omega) (by intro e; cases e; omega)).trans hc, rfl⟩, (grownBy_putObj' W l o').block Bs (by omega) (by intro e; cases e; omega)⟩
theorem KG.cell {b Bs : Nat} {W W' : World} (h : KG b Bs W W') : W'.cell? ⟨Bs, 0, none⟩ = W.cell? ⟨Bs, 0, none⟩ := by unfold World.cell?; rw [h.box]
/-- A place, and seven values. -/
structure Gh where
  k : Nat
  v0 : Value
  v1 : Value
  v2 : Value
  v3 : Value
  v4 : Value
  v5 : Value
  v6 : Value
abbrev GhN (n : Nat) := { x : Gh // x.k < n }
def GhN.ix {n : Nat} (x : GhN n) : Nat := x.1.k
def handedG {n : Nat} (x : GhN n) : Array Value := #[.int .i64 (x.1.k : Int), .agg #[x.1.v0, x.1.v1, x.1.v2, x.1.v3, x.1.v4, x.1.v5, x.1.v6]]
theorem cell_in {w : World} {b j : Nat} {cs : Array Value} {t : TypeId} {f : Nat × Nat} (h : w.heap[b]? = some (.cells cs t f)) (hj : j < cs.size) : ∃ v, w.cell? ⟨b, j, none⟩ = some v := by
  refine ⟨cs[j], ?_⟩
  simp [World.cell?, h, hj]
theorem down_step {n q : Nat} (h : q < n) : (List.range' q (n - q)).reverse = (List.range' (q + 1) (n - (q + 1))).reverse ++ [q] := by
  rw [show n - q = (n - (q + 1)) + 1 from by omega, List.range'_succ, List.reverse_cons]
set_option maxRecDepth 100000 in
set_option maxHeartbeats 2000000 in
theorem backG (m : Nat) (hm : 1 ≤ m) (L Bs b n cap : Nat) (A : Option Addr) (hn : n ≤ 65536) (J Jx : List (GhN n) → World → Prop)
    (hY : ∀ pre x W, J pre W → pre.length < n → YieldAt Fence.wide (m - 1) Try.prog L (handedG x) W fun e W' =>
      (e = .returned (.bool true) ∧ J (pre ++ [x]) W' ∧ KG b Bs W W') ∨ (e = .returned (.bool false) ∧ Jx (pre ++ [x]) W'))
    (W : World) (hBs : W.cell? ⟨Bs, 0, none⟩ = some (.slice A n cap)) (hA : n = 0 ∨ A = some ⟨b, 0, none⟩)
    (cs : Array Value) (t : TypeId) (f : Nat × Nat) (hc : n = 0 ∨ W.heap[b]? = some (.cells cs t f)) (hcs : n * 7 ≤ cs.size)
    (h0 : J [] W) :
    CallsIn Fence.wide m Try.prog 75 #[.func (.yield L) #[] #[], .pointer (some ⟨Bs, 0, none⟩)] W fun e W' => (∃ v, e = .returned v) ∧
      ((∃ ys : List (GhN n), ys.map GhN.ix = (List.range n).reverse ∧ J ys W') ∨ (∃ pre : List (GhN n), True ∧ Jx pre W')) := by
  have HC := Lib.hid hc
  have HA := Lib.hid hA
  clear hc hA
  refine callsIn_of_wp Try.func75 rfl trivial ?_ rfl
  simp only [Try.ntmps75, List.size_toArray, List.length_cons, List.length_nil, Nat.reduceAdd, Nat.reduceSub, Array.replicate_succ, Array.replicate_zero, List.push_toArray, List.append_toArray, List.nil_append, List.cons_append]
  gi_wp2
  gi_loopw [3] (fun i wr => ∃ (p : Nat) (z : Int) (pre : List (GhN n)), p ≤ n ∧ z + 1 = p ∧ i = .int .i64 z ∧ Hid (J pre wr) ∧ Hid (pre.map GhN.ix = (List.range' p (n - p)).reverse) ∧ Hid (KG b Bs W wr))
    (fun i _ => (intOf i + 1).toNat)
  case atStart => exact ⟨n, (n : Int) - 1, [], Nat.le_refl _, by omega, rfl, h0, Lib.hid (by rw [Nat.sub_self]; rfl), KG.refl _ _ _⟩
  case round =>
    obtain ⟨p, z, pre, hp, hz, rfl, HJ, HP, Hnx⟩ := hrel
    have hsl : wr.cell? ⟨Bs, 0, none⟩ = some (.slice A n cap) := Hnx.out.cell.trans hBs
    by_cases hlt : 0 < p
    · obtain ⟨q, rfl⟩ : ∃ q, p = q + 1 := ⟨p - 1, by omega⟩
      obtain rfl : z = (q : Int) := by omega
      have hq : q < n := by omega
      obtain rfl : A = some ⟨b, 0, none⟩ := HA.out.resolve_left (by omega)
      obtain ⟨cs', hc', hsz⟩ := Hnx.out.row cs t f (HC.out.resolve_left (by omega))
      obtain ⟨v0, e0⟩ := cell_in (j := q * 7) hc' (by omega)
      obtain ⟨v1, e1⟩ := cell_in (j := q * 7 + 1) hc' (by omega)
      obtain ⟨v2, e2⟩ := cell_in (j := q * 7 + 2) hc' (by omega)
      obtain ⟨v3, e3⟩ := cell_in (j := q * 7 + 3) hc' (by omega)
      obtain ⟨v4, e4⟩ := cell_in (j := q * 7 + 4) hc' (by omega)
      obtain ⟨v5, e5⟩ := cell_in (j := q * 7 + 5) hc' (by omega)
      obtain ⟨v6, e6⟩ := cell_in (j := q * 7 + 6) hc' (by omega)
      have hbl : b < wr.heap.size := (Array.getElem?_eq_some_iff.1 hc').1
      have hprl : pre.length < n := by
        have := congrArg List.length HP.out
        simp at this; omega
      have HP2 := Lib.hid (show (pre ++ [(⟨⟨q, v0, v1, v2, v3, v4, v5, v6⟩, hq⟩ : GhN n)]).map GhN.ix = (List.range' q (n - q)).reverse by rw [List.map_append, HP.out, down_step hq]; rfl)
      obtain ⟨fn, tmps, assign, body, hy, hR⟩ := hY _ ⟨⟨q, v0, v1, v2, v3, v4, v5, v6⟩, hq⟩ wr HJ.out hprl
      have HR := Lib.hid hR
      dsimp only [handedG] at hy
      clear hR hz hprl hc' hsz
      gi_wp2
      refine HR.out.mono ?_
      rintro e W3 (⟨rfl, hJ3, hk3⟩ | ⟨rfl, hJx3⟩)
      · have HE := Lib.hid hJ3
        have HB := Lib.hid (Hnx.out.trans hk3)
        clear hJ3 hk3
        gi_wp2
        go_roundw
        case rel => exact ⟨q, (q : Int) - 1, _, by omega, by omega, by go_num, HE, HP2, HB⟩
        case measure => simp [intOf]
      · gi_wp2
        refine bodyPost_ret (results_none rfl _ _ _) rfl ?_
        exact ⟨⟨_, rfl⟩, .inr ⟨_, trivial, hJx3⟩⟩
    · obtain rfl : p = 0 := by omega
      obtain rfl : z = -1 := by omega
      gi_wp2
      go_end0
      exact ⟨⟨_, rfl⟩, .inl ⟨_, by rw [HP.out, Nat.sub_zero, ← List.range_eq_range'], HJ.out⟩⟩
theorem backG_stops (m : Nat) (hm : 1 ≤ m) (Bs b n cap : Nat) (A : Option Addr) (hn : n ≤ 65536) (w : World) (hBn : Bs < w.heap.size)
    (hBs : w.cell? ⟨Bs, 0, none⟩ = some (.slice A n cap)) (hA : n = 0 ∨ A = some ⟨b, 0, none⟩) (cs : Array Value) (t : TypeId) (f : Nat × Nat) (hc : n = 0 ∨ w.heap[b]? = some (.cells cs t f)) (hcs : n * 7 ≤ cs.size) :
    SeqStopsK Fence.wide m Try.prog 75 #[.pointer (some ⟨Bs, 0, none⟩)] (handedG (n := n)) (KG b Bs) (fun ys => ys.map GhN.ix = (List.range n).reverse) (fun _ => True) n w := fun L J Jx W hW _ _ hY h0 => by
  exact backG m hm L Bs b n cap A hn J Jx hY W ((hW.cell (p := ⟨Bs, 0, none⟩) hBn).trans hBs) hA cs t f (hc.imp id fun h => (hW.block b (Array.getElem?_eq_some_iff.1 h).1).trans h) hcs h0
end Go.Proofs.Ytcageojoafkojaa.Ju

