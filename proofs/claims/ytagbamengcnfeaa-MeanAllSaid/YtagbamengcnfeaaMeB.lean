/- What policies say together: the last first. -/
import Derived.RangeFuncNested
import Derived.RangeFuncBound
import Derived.RangeFuncCalls
import Derived.RangeFuncLeaves
import Derived.Shelf.Abstract
import Derived.Shelf.RegionOpen
import Derived.WalkKit
import Derived.OwnWalkIn
import Derived.TacticsInMore
import Derived.LoopNIn
import Derived.LoopIn
import Derived.BigRegion
import Derived.Deep.RegionWith
import Derived.Deep.RegionHeld3
import Derived.Test.YtagbamengcnfeaaRound
import Derived.Test.YtagbamengcnfeaaMeO
namespace Go.Proofs.Ytagbamengcnfeaa.Me
open Go.RowKit Go.Shelf Go.WideElems
attribute [local go_sem] Oper.semAt_some
def at0 (l : List PolV) (k : Nat) : PolV := l.getD k ⟨[], 0, [], none, 0, 0, [], none, 0, [], none, 0⟩
theorem six_at {w : World} {b off k : Nat} {l : List PolV} {x : PolV} (h : ∀ j u, (l.flatMap PolV.cells)[j]? = some u → w.cell? ⟨b, off + j, none⟩ = some u) (hx : l[k]? = some x) :
    w.cell? ⟨b, off + k * 6, none⟩ = some (.string ⟨x.name.toArray⟩) ∧ w.cell? ⟨b, off + k * 6 + 1, none⟩ = some (.int .u32 x.dflt) ∧ w.cell? ⟨b, off + k * 6 + 2, none⟩ = some (.slice x.RA x.rules.length x.Rc) ∧ w.cell? ⟨b, off + k * 6 + 3, none⟩ = some (.int .u16 x.handled) ∧ w.cell? ⟨b, off + k * 6 + 4, none⟩ = some (.slice x.PA x.paths.length x.Pc) ∧ w.cell? ⟨b, off + k * 6 + 5, none⟩ = some (.slice x.QA x.ports.length x.Qc) := by
  have hj := fun (j : Nat) (v : Value) (hv : (PolV.cells x)[j]? = some v) (hj6 : j < 6) => h (k * 6 + j) v (by rw [flatz PolV.cells 6 (fun _ => rfl) (by omega) l k j hj6, hx]; exact hv)
  simp only [← Nat.add_assoc] at hj
  exact ⟨hj 0 _ rfl (by omega), hj 1 _ rfl (by omega), hj 2 _ rfl (by omega), hj 3 _ rfl (by omega), hj 4 _ rfl (by omega), hj 5 _ rfl (by omega)⟩
abbrev At (n : Nat) := { k : Nat // k < n }
/-- What is handed out: a place, its instruction. -/
def handed (l : List PolV) (n : Nat) (x : At n) : Array Value := #[.int .i64 (x.1 : Int), .agg #[.string ⟨(at0 l x.1).name.toArray⟩, .int .u32 (at0 l x.1).dflt, .slice (at0 l x.1).RA (at0 l x.1).rules.length (at0 l x.1).Rc, .int .u16 (at0 l x.1).handled, .slice (at0 l x.1).PA (at0 l x.1).paths.length (at0 l x.1).Pc, .slice (at0 l x.1).QA (at0 l x.1).ports.length (at0 l x.1).Qc]]
/-- What has come when so many rounds are over. -/
def down {n : Nat} (h : 0 < n) (k : Nat) : List (At n) := (List.range k).map fun j => ⟨n - 1 - j, by omega⟩
theorem down_succ {n : Nat} (h : 0 < n) (k : Nat) : down h (k + 1) = down h k ++ [⟨n - 1 - k, by omega⟩] := by simp [down, List.range_succ]
theorem down_len {n : Nat} (h : 0 < n) (k : Nat) : (down h k).length = k := by simp [down]
/-- What a round keeps: what lay below, and the box. -/
structure KB (n₀ Bs : Nat) (W W' : World) : Prop where
  bel : Below n₀ W W'
  box : W'.heap[Bs]? = W.heap[Bs]?
theorem KB.refl (n₀ Bs : Nat) (W : World) : KB n₀ Bs W W := ⟨Below.refl _ _, rfl⟩
theorem KB.trans {n₀ Bs : Nat} {A B C : World} (h : KB n₀ Bs A B) (k : KB n₀ Bs B C) : KB n₀ Bs A C := ⟨h.bel.trans k.bel, k.box.trans h.box⟩
theorem kb_put {n₀ Bs : Nat} {w : World} (hn : n₀ ≤ w.heap.size) (hB : Bs < w.heap.size) (W : World) (l : Nat) (o o' : Obj) (hl : w.heap.size ≤ l) (h : W.heap[l]? = some o) (h2 : o.isCells = false) (h3 : o.isWalk = false) : KB n₀ Bs W (W.putObj l o') :=
  ⟨belowK_b hn W l o o' hl h h2 h3, (grownBy_putObj' W l o').block Bs (by have := (Array.getElem?_eq_some_iff.1 h).1; omega) (by intro e; cases e; omega)⟩
theorem KB.cell {n₀ Bs : Nat} {W W' : World} (h : KB n₀ Bs W W') : W'.cell? ⟨Bs, 0, none⟩ = W.cell? ⟨Bs, 0, none⟩ := by unfold World.cell?; rw [h.box]
set_option maxRecDepth 100000 in
set_option maxHeartbeats 2000000 in
theorem back1 (m : Nat) (hm : 1 ≤ m) (L Bs n₀ b off n cap : Nat) (h0n : 0 < n) (hn : n ≤ 65536) (l : List PolV) (hb : b < n₀) (J Jx : List (At n) → World → Prop)
    (hY : ∀ pre x W, J pre W → pre.length < n → YieldAt Fence.wide (m - 1) Try.prog L (handed l n x) W fun e W' =>
      (e = .returned (.bool true) ∧ J (pre ++ [x]) W' ∧ KB n₀ Bs W W') ∨ (e = .returned (.bool false) ∧ Jx (pre ++ [x]) W'))
    (W : World) (hBs : W.cell? ⟨Bs, 0, none⟩ = some (.slice (some ⟨b, off, none⟩) n cap)) 
    (hc : ∀ j, j < n → W.cell? ⟨b, off + j * 6, none⟩ = some (.string ⟨(at0 l j).name.toArray⟩) ∧ W.cell? ⟨b, off + j * 6 + 1, none⟩ = some (.int .u32 (at0 l j).dflt) ∧ W.cell? ⟨b, off + j * 6 + 2, none⟩ = some (.slice (at0 l j).RA (at0 l j).rules.length (at0 l j).Rc) ∧ W.cell? ⟨b, off + j * 6 + 3, none⟩ = some (.int .u16 (at0 l j).handled) ∧ W.cell? ⟨b, off + j * 6 + 4, none⟩ = some (.slice (at0 l j).PA (at0 l j).paths.length (at0 l j).Pc) ∧ W.cell? ⟨b, off + j * 6 + 5, none⟩ = some (.slice (at0 l j).QA (at0 l j).ports.length (at0 l j).Qc))
    (h0 : J [] W) :
    CallsIn Fence.wide m Try.prog 47 #[.func (.yield L) #[] #[], .pointer (some ⟨Bs, 0, none⟩)] W fun e W' => (∃ v, e = .returned v) ∧
      ((∃ ys, ys = down h0n n ∧ J ys W') ∨ (∃ pre, True ∧ Jx pre W')) := by
  refine callsIn_of_wp Try.func47 rfl trivial ?_ rfl
  simp only [Try.ntmps47, List.size_toArray, List.length_cons, List.length_nil, Nat.reduceAdd, Nat.reduceSub, Array.replicate_succ, Array.replicate_zero, List.push_toArray, List.append_toArray, List.nil_append, List.cons_append]
  gi_wp2
  gi_loopw [3] (fun i wr => ∃ (p : Nat) (z : Int), p ≤ n ∧ z + 1 = p ∧ i = .int .i64 z ∧ Hid (J (down h0n (n - p)) wr) ∧ Hid (KB n₀ Bs W wr))
    (fun i _ => (intOf i + 1).toNat)
  case atStart => exact ⟨n, (n : Int) - 1, Nat.le_refl _, by omega, rfl, by rw [Nat.sub_self]; exact h0, KB.refl _ _ _⟩
  case round =>
    obtain ⟨p, z, hp, hz, rfl, HJ, Hnx⟩ := hrel
    have hsl : wr.cell? ⟨Bs, 0, none⟩ = some (.slice (some ⟨b, off, none⟩) n cap) := Hnx.out.cell.trans hBs
    by_cases hlt : 0 < p
    · obtain ⟨q, rfl⟩ : ∃ q, p = q + 1 := ⟨p - 1, by omega⟩
      obtain rfl : z = (q : Int) := by omega
      have hq : q < n := by omega
      have hnext : down h0n (n - q) = down h0n (n - (q + 1)) ++ [⟨q, hq⟩] := by
        rw [show n - q = n - (q + 1) + 1 by omega, down_succ]
        congr 2
        exact Subtype.ext (by show n - 1 - (n - (q + 1)) = q; omega)
      obtain ⟨fn, tmps, assign, body, hy, hR⟩ := hY _ ⟨q, hq⟩ wr HJ.out (by rw [down_len]; omega)
      have HR := Lib.hid hR
      dsimp only [handed] at hy
      obtain ⟨e0, e1, e2, e3, e4, e5⟩ := hc q hq
      have hk : ∀ j, wr.cell? ⟨b, j, none⟩ = W.cell? ⟨b, j, none⟩ := fun j => Hnx.out.bel.cell (p := ⟨b, j, none⟩) hb
      rw [← hk] at e0 e1 e2 e3 e4 e5
      have Hn := Lib.hid hnext
      clear hR hnext hk hz
      gi_wp2
      refine HR.out.mono ?_
      rintro e W3 (⟨rfl, hJ3, hk3⟩ | ⟨rfl, hJx3⟩)
      · have HE := Lib.hid (show J (down h0n (n - q)) W3 from by rw [Hn.out]; exact hJ3)
        have HB := Lib.hid (Hnx.out.trans hk3)
        clear hJ3 hk3
        gi_wp2
        go_roundw
        case rel => exact ⟨q, (q : Int) - 1, by omega, by omega, by go_num, HE, HB⟩
        case measure => simp [intOf]
      · gi_wp2
        refine bodyPost_ret (results_none rfl _ _ _) rfl ?_
        exact ⟨⟨_, rfl⟩, .inr ⟨_, trivial, hJx3⟩⟩
    · obtain rfl : p = 0 := by omega
      obtain rfl : z = -1 := by omega
      gi_wp2
      go_end0
      exact ⟨⟨_, rfl⟩, .inl ⟨_, rfl, HJ.out⟩⟩
set_option maxHeartbeats 1000000 in
/-- The slice is boxed; the function value captures the box. -/
theorem backward_in (m : Nat) (A : Option Addr) (n cap : Nat) (w : World) :
    CallsIn Fence.wide m Try.prog 34 #[.slice A n cap] w fun e w' => e = .returned (.func (.func 47) #[] #[.pointer (some ⟨w.heap.size, 0, none⟩)]) ∧ w' = w.alloc (.cells #[.slice A n cap] 35) := by
  refine callsIn_of_wp Try.func34 rfl trivial ?_ rfl
  simp only [Try.ntmps34, List.size_toArray, List.length_cons, List.length_nil, Nat.reduceAdd, Nat.reduceSub, Array.replicate_succ, Array.replicate_zero, List.push_toArray, List.append_toArray, List.nil_append, List.cons_append]
  gi_wp2
  go_ret
  exact ⟨rfl, rfl⟩
theorem back_stops (m : Nat) (hm : 1 ≤ m) (Bs n₀ b off n cap : Nat) (h0n : 0 < n) (hn : n ≤ 65536) (l : List PolV) (hl : l.length = n) (hb : b < n₀) (w : World) (hBn : Bs < w.heap.size) (hn₀ : n₀ ≤ w.heap.size)
    (hBs : w.cell? ⟨Bs, 0, none⟩ = some (.slice (some ⟨b, off, none⟩) n cap)) (hc : ∀ j u, (l.flatMap PolV.cells)[j]? = some u → w.cell? ⟨b, off + j, none⟩ = some u) :
    SeqStopsK Fence.wide m Try.prog 47 #[.pointer (some ⟨Bs, 0, none⟩)] (handed l n) (KB n₀ Bs) (fun ys => ys = down h0n n) (fun _ => True) n w := fun L J Jx W hW _ _ hY h0 => by
  have hW' := hW.mono hn₀
  refine back1 m hm L Bs n₀ b off n cap h0n hn l hb J Jx hY W ((hW.cell (p := ⟨Bs, 0, none⟩) hBn).trans hBs) (fun j hj => ?_) h0
  have hx : l[j]? = some (at0 l j) := by
    unfold at0
    rw [List.getD_eq_getElem?_getD, List.getElem?_eq_getElem (by omega)]; rfl
  obtain ⟨q0, q1, q2, q3, q4, q5⟩ := six_at hc hx
  have hk : ∀ j, W.cell? ⟨b, j, none⟩ = w.cell? ⟨b, j, none⟩ := fun j => hW'.cell (p := ⟨b, j, none⟩) hb
  exact ⟨(hk _).trans q0, (hk _).trans q1, (hk _).trans q2, (hk _).trans q3, (hk _).trans q4, (hk _).trans q5⟩

def OnlyR (fr : Act) (R : World → Prop) : Exit → Act → World → Prop
  | .normal, a, w => a = fr ∧ R w
  | _, _, _ => False
theorem OnlyR.here {fr : Act} {R : World → Prop} {w : World} (h : R w) : OnlyR fr R .normal fr w := ⟨rfl, h⟩
theorem bk_boxed {W : World} {g t : Nat} {v : Value} (h : Boxed W g t v) : Bk W g t [v] := h
theorem bk_ownG {β : Type} (g t : Nat) (f : β → List Value) : Own (fun s W => Bk W g t (f s)) := fun s X Y row hs hg hrow =>
  hs.grown hg (fun e' => by obtain ⟨o, ho, hc⟩ := hrow g e'.symm; rw [show X.heap[g]? = _ from hs] at ho; cases ho; cases hc)
theorem keeps_below {B : Nat} {W W' : World} (h : Below W.heap.size W W') : KeepsFrom B W W' := ⟨h.size, fun k _ _ hk _ => (h.block k (Array.getElem?_eq_some_iff.1 hk).1).trans hk⟩
theorem wp_onceIn {F : Fence} {n : Nat} {P : Program} {c : Code} {Q : Exit → Act → World → Prop} {a : Act} {w : World} (fr : Act) (R : World → Prop) (h : c.wpIn F n P (OnlyR fr R) a w) (hK : ∀ w', R w' → Q .normal fr w') : c.wpIn F n P Q a w :=
  Code.wpIn_mono (fun e a w h => by
    cases e with
    | normal =>
      obtain ⟨h1, h2⟩ := h
      subst h1
      exact hK _ h2
    | _ => exact (h : False).elim) h
theorem onlyR_in (fr : Act) (R : World → Prop) : ¬ LetsOut (OnlyR fr R) := by rintro ⟨_, _, h⟩; exact h
theorem below_between {n : Nat} {w W W' : World} (h : Below n w W) (k : Below n w W') (hs : W.heap.size ≤ W'.heap.size) : Below n W W' :=
  ⟨k.os.trans h.os.symm, k.tape.trans h.tape.symm, k.output.trans h.output.symm, hs, fun i hi => (k.block i hi).trans (h.block i hi).symm⟩
/-- What policies say together. -/
def allR (l : List (Nat × List RuleM)) (x : RcM) : Nat := l.foldr (fun p a => Rec.stg a (saysR p.1 p.2 x)) 2147418112
def pm (p : PolV) : Nat × List RuleM := (p.dflt, p.rules.map RuleV.m)
def strongP {n : Nat} (l : List PolV) (x : RcM) (ys : List (At n)) : Nat := ys.foldl (fun a k => Rec.stg a (saysR (at0 l k.1).dflt ((at0 l k.1).rules.map RuleV.m) x)) 2147418112
theorem strongP_snoc {n : Nat} (l : List PolV) (x : RcM) (ys : List (At n)) (k : At n) : strongP l x (ys ++ [k]) = Rec.stg (strongP l x ys) (saysR (at0 l k.1).dflt ((at0 l k.1).rules.map RuleV.m) x) := by
  unfold strongP; rw [List.foldl_append]; rfl
theorem strongP_down (l : List PolV) (x : RcM) (n : Nat) (hl : l.length = n) (h : 0 < n) : strongP l x (down h n) = allR (l.map pm) x := by
  have e : (down h n).map (fun k => at0 l k.1) = l.reverse := by
    apply List.ext_getElem
    · simp [down_len, hl]
    · intro i h1 h2
      have hi : i < n := by simpa [down_len] using h1
      simp only [down, List.map_map, List.getElem_map, List.getElem_range, Function.comp, List.getElem_reverse]
      unfold at0
      rw [List.getD_eq_getElem?_getD, List.getElem?_eq_getElem (by omega)]
      simp [hl]
  have e2 : strongP l x (down h n) = ((down h n).map (fun k => at0 l k.1)).foldl (fun a p => Rec.stg a (saysR p.dflt (p.rules.map RuleV.m) x)) 2147418112 := by
    unfold strongP; rw [List.foldl_map]
  rw [e2, e, List.foldl_reverse]
  unfold allR pm
  rw [List.foldr_map]
theorem strongP_lt {n : Nat} (l : List PolV) (x : RcM) (h : ∀ k, k < n → saysR (at0 l k).dflt ((at0 l k).rules.map RuleV.m) x < 4294967296) (ys : List (At n)) : strongP l x ys < 4294967296 := by
  unfold strongP
  have : ∀ (ys : List (At n)) (a : Nat), a < 4294967296 → ys.foldl (fun a k => Rec.stg a (saysR (at0 l k.1).dflt ((at0 l k.1).rules.map RuleV.m) x)) a < 4294967296 := by
    intro ys
    induction ys with
    | nil => intro a ha; exact ha
    | cons y ys ih => intro a ha; exact ih _ (Rec.stg_lt ha (h y.1 y.2))
  exact this ys _ (by omega)
/-- A region that draws its order, in a round, every order that may be picked, S held. -/
theorem region_roundH {P : Program} {Q : Exit → Act → World → Prop} {L n id : Nat} {a : Act} {w : World} {l : List Oper} {S : World → Prop} (hm : P.follows .mixedOrders = true) (hd : noDefer l = true) (hQ : ¬ LetsOut Q) (hS : S w.drew)
    (h : S w.drew → wpAnyH P .any l.toArray Q S l.toArray.size (Array.replicate l.toArray.size false) a w.drew) : (Code.region id l.toArray true).wpIn (Fence.wide.inRound L) n P Q a w := by
  refine wpIn_region_draw fun t => ops_round (noDefer_at hd) hQ _ _ _ ?_
  simp only [Region.schedule, hm, Bool.true_or, if_true]
  exact wpAny_sound l.toArray.size t _ a _ (wpAny_of_held _ _ _ _ (h hS))
theorem says_ltM {d : Nat} {l : List RuleV} {x : RcM} (hd : d < 4294967296) (h : ∀ r ∈ l, r.m.ok) : saysR d (l.map RuleV.m) x < 4294967296 := by
  unfold saysR
  split
  · have := best_ok (l.map RuleV.m) x
    cases hb : bestL x 0 (l.map RuleV.m) none with
    | none => exact hd
    | some y =>
      obtain ⟨_, r, hr, he⟩ := this y hb
      show y.2 < _
      obtain ⟨v, hv, rfl⟩ := List.mem_map.1 (List.mem_of_getElem? hr)
      rw [← he]; exact (h v hv).2.1
  · omega
set_option maxRecDepth 100000 in
set_option maxHeartbeats 8000000 in
theorem mall_any (x : RcM) (l : List PolV) (n b off cap : Nat) (w : World) (hl : l.length = n) (h0n : 0 < n) (hn : n ≤ 1000) (hx : x.ok) (hr : ∀ p ∈ l, Reads w p ∧ QOk p) (hd : ∀ p ∈ l, p.dflt < 4294967296) (hbl : b < w.heap.size) (hc : ∀ j u, (l.flatMap PolV.cells)[j]? = some u → w.cell? ⟨b, off + j, none⟩ = some u) :
    Calls Try.prog 13 #[.slice (some ⟨b, off, none⟩) n cap, .agg #[.int .u32 x.num, .int .u32 x.arch, .int .u64 x.at_, .int .u64 x.a0, .int .u64 x.a1, .int .u64 x.a2, .int .u64 x.a3, .int .u64 x.a4, .int .u64 x.a5]] w (RetU (allR (l.map pm) x) w) := by
  have hat : ∀ k, k < n → at0 l k ∈ l := fun k hk => by
    unfold at0
    rw [List.getD_eq_getElem?_getD, List.getElem?_eq_getElem (by omega)]
    exact List.getElem_mem _
  have hlt : ∀ k, k < n → saysR (at0 l k).dflt ((at0 l k).rules.map RuleV.m) x < 4294967296 := fun k hk => says_ltM (hd _ (hat k hk)) (hr _ (hat k hk)).2.ok
  have HSy := Lib.hid (fun (k : Nat) (hk : k < n) W (h : Below w.heap.size w W) => says_any ⟨(at0 l k).name.toArray⟩ (at0 l k).dflt (at0 l k).rules (at0 l k).RA (at0 l k).rules.length (at0 l k).Rc (at0 l k).handled (at0 l k).PA (at0 l k).paths.length (at0 l k).Pc (at0 l k).QA (at0 l k).ports.length (at0 l k).Qc x W rfl (by have := (hr _ (hat k hk)).2.r; omega) ((rrd_of (hr _ (hat k hk)).1 (hr _ (hat k hk)).2).below h) hx)
  have HLt := Lib.hid hlt
  have Hc := Lib.hid hc
  have Hl := Lib.hid hl
  have Hd := Lib.hid (strongP_down l x n hl h0n)
  clear hat hlt hx hr hd hc hl
  refine (callsIn_wide (n := 8)).1 ?_
  refine callsIn_of_wp_marks Try.func13 rfl trivial ?_ rfl
  simp only [Try.ntmps13, List.size_toArray, List.length_cons, List.length_nil, Nat.reduceAdd, Nat.reduceSub, Array.replicate_succ, Array.replicate_zero, List.push_toArray, List.append_toArray, List.nil_append, List.cons_append]
  gi_wp2_with (first | (refine ⟨trivial, ?_⟩; gi_at_call 34; refine (backward_in _ _ _ _ _).mono ?_; rintro e w' ⟨rfl, rfl⟩))
  have h1 := Bk.new (l := x.cells) w 33 #[.int .u32 x.num, .int .u32 x.arch, .int .u64 x.at_, .int .u64 x.a0, .int .u64 x.a1, .int .u64 x.a2, .int .u64 x.a3, .int .u64 x.a4, .int .u64 x.a5] rfl
  have h2 := Bk.new (l := [.int .u32 2147418112]) (w.alloc (.cells #[.int .u32 x.num, .int .u32 x.arch, .int .u64 x.at_, .int .u64 x.a0, .int .u64 x.a1, .int .u64 x.a2, .int .u64 x.a3, .int .u64 x.a4, .int .u64 x.a5] 33)) 37 #[.int .u32 2147418112] rfl
  have h3 := Boxed.new ((w.alloc (.cells #[.int .u32 x.num, .int .u32 x.arch, .int .u64 x.at_, .int .u64 x.a0, .int .u64 x.a1, .int .u64 x.a2, .int .u64 x.a3, .int .u64 x.a4, .int .u64 x.a5] 33)).alloc (.cells #[.int .u32 2147418112] 37)) 35 (.slice (some ⟨b, off, none⟩) n cap)
  have hb := (((Below.refl w.heap.size w).alloc (Nat.le_refl _) (.cells #[.int .u32 x.num, .int .u32 x.arch, .int .u64 x.at_, .int .u64 x.a0, .int .u64 x.a1, .int .u64 x.a2, .int .u64 x.a3, .int .u64 x.a4, .int .u64 x.a5] 33)).alloc (by simp) (.cells #[.int .u32 2147418112] 37)).alloc (by simp; omega) (.cells #[.slice (some ⟨b, off, none⟩) n cap] 35)
  simp only [World.size_alloc] at h2 h3
  have H1 := Lib.hid ((h1.alloc (.cells #[.int .u32 2147418112] 37)).alloc (.cells #[.slice (some ⟨b, off, none⟩) n cap] 35))
  have H2 := Lib.hid (h2.alloc (.cells #[.slice (some ⟨b, off, none⟩) n cap] 35))
  have H3 := Lib.hid h3
  have HB := Lib.hid hb
  have hsz : (((w.alloc (.cells #[.int .u32 x.num, .int .u32 x.arch, .int .u64 x.at_, .int .u64 x.a0, .int .u64 x.a1, .int .u64 x.a2, .int .u64 x.a3, .int .u64 x.a4, .int .u64 x.a5] 33)).alloc (.cells #[.int .u32 2147418112] 37)).alloc (.cells #[.slice (some ⟨b, off, none⟩) n cap] 35)).heap.size = w.heap.size + 3 := by simp
  clear h1 h2 h3 hb
  revert H1 H2 H3 HB hsz
  generalize (((w.alloc (.cells #[.int .u32 x.num, .int .u32 x.arch, .int .u64 x.at_, .int .u64 x.a0, .int .u64 x.a1, .int .u64 x.a2, .int .u64 x.a3, .int .u64 x.a4, .int .u64 x.a5] 33)).alloc (.cells #[.int .u32 2147418112] 37)).alloc (.cells #[.slice (some ⟨b, off, none⟩) n cap] 35)) = W0
  rw [show w.heap.size + 1 + 1 = w.heap.size + 2 from rfl]
  intro H1 H2 H3 HB hsz
  refine wpIn_rangeFunc_ownH rfl (by omega) (gf := 47) (lb := #[.pointer (some ⟨w.heap.size + 2, 0, none⟩)]) rfl trivial (enters_of Try.func47 (by kernel_rfl) rfl)
    (back_stops 7 (by omega) (w.heap.size + 2) w.heap.size b off n cap h0n (by omega) l Hl.out hbl W0 (by omega) (by omega) H3.out.cell (fun j u hu => (HB.out.cell (p := ⟨b, off + j, none⟩) hbl).trans (Hc.out j u hu))) KB.trans (kb_put (by omega) (by omega)) (Below.refl _ _) (fun _ => rfl)
    (fun pre W => ((Bk W w.heap.size 33 x.cells ∧ Bk W (w.heap.size + 2) 35 [.slice (some ⟨b, off, none⟩) n cap]) ∧ Bk W (w.heap.size + 1) 37 [.int .u32 (strongP l x pre : Nat)]) ∧ Below w.heap.size w W)
    (fun _ _ _ => False)
    (OwnFrom.and (OwnFrom.and (OwnFrom.and (Own.from (bk_ownG _ _ (fun _ => _)) _) (Own.from (bk_ownG _ _ (fun _ => _)) _)) (Own.from (bk_ownG _ _ _) _)) (ownFrom_below (Nat.le_refl _) (by omega)))
    (fun _ _ _ _ _ hs _ _ => hs)
    ⟨⟨⟨H1.out, bk_boxed H3.out⟩, H2.out⟩, HB.out⟩
    (fun k a' W => ∃ Bx, w.heap.size + 2 < Bx ∧ Bk W Bx 43 [.string ⟨(at0 l k.1).name.toArray⟩, .int .u32 (at0 l k.1).dflt, .slice (at0 l k.1).RA (at0 l k.1).rules.length (at0 l k.1).Rc, .int .u16 (at0 l k.1).handled, .slice (at0 l k.1).PA (at0 l k.1).paths.length (at0 l k.1).Pc, .slice (at0 l k.1).QA (at0 l k.1).ports.length (at0 l k.1).Qc] ∧ a' = { tmps := #[.slice (some ⟨b, off, none⟩) n cap, .agg #[.int .u32 x.num, .int .u32 x.arch, .int .u64 x.at_, .int .u64 x.a0, .int .u64 x.a1, .int .u64 x.a2, .int .u64 x.a3, .int .u64 x.a4, .int .u64 x.a5], undef, .pointer (some ⟨w.heap.size, 0, none⟩), .int .u32 0, .pointer (some ⟨w.heap.size + 1, 0, none⟩), undef, .pointer (some ⟨Bx, 0, none⟩), .slice (some ⟨b, off, none⟩) n cap, .func (.func 47) #[] #[.pointer (some ⟨w.heap.size + 2, 0, none⟩)], .int .i64 (k.1 : Int), .agg #[.string ⟨(at0 l k.1).name.toArray⟩, .int .u32 (at0 l k.1).dflt, .slice (at0 l k.1).RA (at0 l k.1).rules.length (at0 l k.1).Rc, .int .u16 (at0 l k.1).handled, .slice (at0 l k.1).PA (at0 l k.1).paths.length (at0 l k.1).Pc, .slice (at0 l k.1).QA (at0 l k.1).ports.length (at0 l k.1).Qc], undef, undef, undef, undef, undef, undef], defers := [] })
    (fun k a' _ X Y row hs hg hr => by obtain ⟨Bx, h1, h2, h3⟩ := hs; exact ⟨Bx, h1, bk_ownG Bx _ (fun (_ : Unit) => _) () X Y row h2 hg (fun r e => (hr r e).2), h3⟩)
    ?assign ?body ?done ?stop
  case assign =>
    rintro L pre k W K ⟨⟨⟨bX, bS⟩, bG⟩, hB⟩ hK
    unfold handed
    gi_wp2
    exact hK _ _ ((KeepsOthers.alloc _ _).from _) ⟨(Below.refl _ W).alloc hB.size _, Below.heap_alloc _ _ _ bS.lt⟩ ⟨⟨⟨bX.alloc _, bS.alloc _⟩, bG.alloc _⟩, hB.alloc hB.size _⟩ ⟨W.heap.size, bS.lt, Bk.new W _ _ rfl, rfl⟩
  case body =>
    rintro L pre k a' W hwl ⟨r, hr⟩ ⟨⟨⟨bX, bS⟩, bG⟩, hB⟩ ⟨Bx, hBx, bI, rfl⟩ hlt
    obtain ⟨k, hk⟩ := k
    dsimp only at bI
    have Hst := Lib.hid (strongP_snoc l x pre ⟨k, hk⟩)
    have Hz := Lib.hid (strongP_lt l x HLt.out pre)
    have Hy := Lib.hid (HLt.out k hk)
    have Hsy := Lib.hid (HSy.out k hk)
    obtain ⟨z, hz⟩ : ∃ z, z = strongP l x pre := ⟨_, rfl⟩
    rw [← hz] at bG Hst Hz
    dsimp only at Hst
    obtain ⟨p, hp⟩ : ∃ p, p = at0 l k := ⟨_, rfl⟩
    simp only [← hp] at bI Hst Hy Hsy ⊢
    clear hz hp hr
    obtain ⟨pnm, pdf, prs, pRA, pRc, phd, pps, pPA, pPc, pqs, pQA, pQc⟩ := p
    dsimp only at bI Hst Hy Hsy ⊢
    obtain ⟨y, hy⟩ : ∃ y, y = saysR pdf (prs.map RuleV.m) x := ⟨_, rfl⟩
    rw [← hy] at Hst Hy Hsy
    have HX := Lib.hid bX
    have HS := Lib.hid bS
    have HG := Lib.hid bG
    have HI := Lib.hid bI
    have HBW := Lib.hid hB
    clear hy bX bS bG bI hB
    gi_wp2
    refine wp_onceIn ?fr (fun w' => ∃ wc, Hid (Below W.heap.size W wc) ∧ w' = wc.setCell ⟨w.heap.size + 1, 0, none⟩ (.int .u32 (Rec.stg z y : Nat))) ?reg ?imp
    case reg =>
      have HmkS := Lib.hid (fun V (h1 : Bk V Bx 43 [.string ⟨pnm.toArray⟩, .int .u32 pdf, .slice pRA prs.length pRc, .int .u16 phd, .slice pPA pps.length pPc, .slice pQA pqs.length pQc]) (h2 : Bk V w.heap.size 33 x.cells) => (show (fun V' => V'.cell? ⟨Bx, 0, none⟩ = some (.string ⟨pnm.toArray⟩) ∧ V'.cell? ⟨Bx, 1, none⟩ = some (.int .u32 pdf) ∧ V'.cell? ⟨Bx, 2, none⟩ = some (.slice pRA prs.length pRc) ∧ V'.cell? ⟨Bx, 3, none⟩ = some (.int .u16 phd) ∧ V'.cell? ⟨Bx, 4, none⟩ = some (.slice pPA pps.length pPc) ∧ V'.cell? ⟨Bx, 5, none⟩ = some (.slice pQA pqs.length pQc) ∧ V'.cell? ⟨w.heap.size, 0, none⟩ = some (.int .u32 x.num) ∧ V'.cell? ⟨w.heap.size, 1, none⟩ = some (.int .u32 x.arch) ∧ V'.cell? ⟨w.heap.size, 2, none⟩ = some (.int .u64 x.at_) ∧ V'.cell? ⟨w.heap.size, 3, none⟩ = some (.int .u64 x.a0) ∧ V'.cell? ⟨w.heap.size, 4, none⟩ = some (.int .u64 x.a1) ∧ V'.cell? ⟨w.heap.size, 5, none⟩ = some (.int .u64 x.a2) ∧ V'.cell? ⟨w.heap.size, 6, none⟩ = some (.int .u64 x.a3) ∧ V'.cell? ⟨w.heap.size, 7, none⟩ = some (.int .u64 x.a4) ∧ V'.cell? ⟨w.heap.size, 8, none⟩ = some (.int .u64 x.a5)) V from ⟨h1.cell 0 rfl, h1.cell 1 rfl, h1.cell 2 rfl, h1.cell 3 rfl, h1.cell 4 rfl, h1.cell 5 rfl, h2.cell 0 rfl, h2.cell 1 rfl, h2.cell 2 rfl, h2.cell 3 rfl, h2.cell 4 rfl, h2.cell 5 rfl, h2.cell 6 rfl, h2.cell 7 rfl, h2.cell 8 rfl⟩))
      refine region_roundH (S := (fun V' => V'.cell? ⟨Bx, 0, none⟩ = some (.string ⟨pnm.toArray⟩) ∧ V'.cell? ⟨Bx, 1, none⟩ = some (.int .u32 pdf) ∧ V'.cell? ⟨Bx, 2, none⟩ = some (.slice pRA prs.length pRc) ∧ V'.cell? ⟨Bx, 3, none⟩ = some (.int .u16 phd) ∧ V'.cell? ⟨Bx, 4, none⟩ = some (.slice pPA pps.length pPc) ∧ V'.cell? ⟨Bx, 5, none⟩ = some (.slice pQA pqs.length pQc) ∧ V'.cell? ⟨w.heap.size, 0, none⟩ = some (.int .u32 x.num) ∧ V'.cell? ⟨w.heap.size, 1, none⟩ = some (.int .u32 x.arch) ∧ V'.cell? ⟨w.heap.size, 2, none⟩ = some (.int .u64 x.at_) ∧ V'.cell? ⟨w.heap.size, 3, none⟩ = some (.int .u64 x.a0) ∧ V'.cell? ⟨w.heap.size, 4, none⟩ = some (.int .u64 x.a1) ∧ V'.cell? ⟨w.heap.size, 5, none⟩ = some (.int .u64 x.a2) ∧ V'.cell? ⟨w.heap.size, 6, none⟩ = some (.int .u64 x.a3) ∧ V'.cell? ⟨w.heap.size, 7, none⟩ = some (.int .u64 x.a4) ∧ V'.cell? ⟨w.heap.size, 8, none⟩ = some (.int .u64 x.a5))) (by kernel_rfl) (by kernel_rfl) (onlyR_in _ _) (HmkS.out _ (HI.out.drewN 1) (HX.out.drewN 1)) (fun hHeld0 => ?_)
      have HBc := Lib.hid (Below.refl W.heap.size W).drew
      have HI := Lib.hid (HI.out.drewN 1)
      have HX := Lib.hid (HX.out.drewN 1)
      have HG := Lib.hid (HG.out.drewN 1)
      change Hid (Bk W.drew _ _ _) at HI
      change Hid (Bk W.drew _ _ _) at HX
      change Hid (Bk W.drew _ _ _) at HG
      generalize W.drew = vh0 at hHeld0 HBc HI HX HG ⊢
      refine wpAnyH_take (i := 1) (v := ?_) (by first | (simp only [List.getElem?_toArray, List.getElem?_cons_succ, List.getElem?_cons_zero] <;> rfl) | rfl) (by kernel_rfl) (by kernel_rfl) (by kernel_rfl) (by exact fun _ _ _ h => h) (Or.inl ⟨by rfl, ?_⟩) hHeld0 ?_
      rotate_left 1
      · intro w hSw
        try dsimp only at hSw
        (go_simp) <;> (with_reducible rfl)
      try simp only [Act.put, List.setIfInBounds_toArray, List.set_cons_zero, List.set_cons_succ]
      refine wpAnyH_take (i := 2) (v := ?_) (by first | (simp only [List.getElem?_toArray, List.getElem?_cons_succ, List.getElem?_cons_zero] <;> rfl) | rfl) (by kernel_rfl) (by kernel_rfl) (by kernel_rfl) (by exact fun _ _ _ h => h) (Or.inl ⟨by rfl, ?_⟩) hHeld0 ?_
      rotate_left 1
      · intro w hSw
        try dsimp only at hSw
        (go_simp) <;> (with_reducible rfl)
      try simp only [Act.put, List.setIfInBounds_toArray, List.set_cons_zero, List.set_cons_succ]
      refine wpAnyH_ready (rs := [0, 3]) (by kernel_rfl) (by simp) ?_
      refine AllReadyH.cons (by first | (simp only [List.getElem?_toArray, List.getElem?_cons_zero] <;> rfl) | rfl) (fun K hK => ?_) ?_
      · skip
        have s0 := HG.out.cell 0 rfl
        have l0 := HG.out.lt
        go_simp
        refine hK.out _ _ hHeld0 (fun hHeld1 => ?_)
        clear hK K s0 l0 hHeld0
        try simp only [Act.put, List.setIfInBounds_toArray, List.set_cons_zero, List.set_cons_succ]
        refine wpAnyH_ready (rs := [3]) (by kernel_rfl) (by simp) ?_
        refine AllReadyH.cons (by first | (simp only [List.getElem?_toArray, List.getElem?_cons_succ, List.getElem?_cons_zero] <;> rfl) | rfl) (fun K hK => ?_) ?_
        · skip
          go_simp
          refine (Hsy.out _ (HBW.out.trans (HBc.out.mono HBW.out.size))).mono ?_
          rintro e wc ⟨rfl, hbc⟩
          have HI := Lib.hid (HI.out.kept hbc)
          have HX := Lib.hid (HX.out.kept hbc)
          have HG := Lib.hid (HG.out.kept hbc)
          have HBc := Lib.hid (HBc.out.trans (hbc.mono HBc.out.size))
          clear hbc
          refine hK.out _ _ (HmkS.out _ HI.out HX.out) (fun hHeld2 => ?_)
          clear hK K hHeld1
          try simp only [Act.put, List.setIfInBounds_toArray, List.set_cons_zero, List.set_cons_succ]
          refine wpAnyH_ready (rs := [4]) (by kernel_rfl) (by simp) ?_
          refine AllReadyH.cons (by first | (simp only [List.getElem?_toArray, List.getElem?_cons_succ, List.getElem?_cons_zero] <;> rfl) | rfl) (fun K hK => ?_) ?_
          · skip
            go_simp
            refine (Rec.stronger_any z y _ Hz.out Hy.out).mono ?_
            rintro e wd ⟨rfl, rfl⟩
            refine hK.out _ _ hHeld2 (fun hHeld3 => ?_)
            clear hK K hHeld2
            try simp only [Act.put, List.setIfInBounds_toArray, List.set_cons_zero, List.set_cons_succ]
            refine wpAnyH_ready (rs := [5]) (by kernel_rfl) (by simp) ?_
            refine AllReadyH.cons (by first | (simp only [List.getElem?_toArray, List.getElem?_cons_succ, List.getElem?_cons_zero] <;> rfl) | rfl) (fun K hK => ?_) ?_
            · skip
              have s0 := HG.out.cell 0 rfl
              have f0 := HG.out.fz 0
              have l0 := HG.out.lt
              go_simp
              refine hK.out _ _ (HmkS.out _ (HI.out.grown (only_set _ (w.heap.size + 1) 0 _) (by simp; omega)) (HX.out.grown (only_set _ (w.heap.size + 1) 0 _) (by simp))) (fun hHeld4 => ?_)
              clear hK K s0 f0 l0 hHeld3
              try simp only [Act.put, List.setIfInBounds_toArray, List.set_cons_zero, List.set_cons_succ]
              refine wpAnyH_done (by kernel_rfl) ?_ _
              refine OnlyR.here ?_
              exact ⟨_, HBc, rfl⟩
            exact AllReadyH.nil
          exact AllReadyH.nil
        exact AllReadyH.nil
      refine AllReadyH.cons (by first | (simp only [List.getElem?_toArray, List.getElem?_cons_succ, List.getElem?_cons_zero] <;> rfl) | rfl) (fun K hK => ?_) ?_
      · skip
        go_simp
        refine (Hsy.out _ (HBW.out.trans (HBc.out.mono HBW.out.size))).mono ?_
        rintro e wc ⟨rfl, hbc⟩
        have HI := Lib.hid (HI.out.kept hbc)
        have HX := Lib.hid (HX.out.kept hbc)
        have HG := Lib.hid (HG.out.kept hbc)
        have HBc := Lib.hid (HBc.out.trans (hbc.mono HBc.out.size))
        clear hbc
        refine hK.out _ _ (HmkS.out _ HI.out HX.out) (fun hHeld1 => ?_)
        clear hK K hHeld0
        try simp only [Act.put, List.setIfInBounds_toArray, List.set_cons_zero, List.set_cons_succ]
        refine wpAnyH_ready (rs := [0]) (by kernel_rfl) (by simp) ?_
        refine AllReadyH.cons (by first | (simp only [List.getElem?_toArray, List.getElem?_cons_zero] <;> rfl) | rfl) (fun K hK => ?_) ?_
        · skip
          have s0 := HG.out.cell 0 rfl
          have l0 := HG.out.lt
          go_simp
          refine hK.out _ _ hHeld1 (fun hHeld2 => ?_)
          clear hK K s0 l0 hHeld1
          try simp only [Act.put, List.setIfInBounds_toArray, List.set_cons_zero, List.set_cons_succ]
          refine wpAnyH_ready (rs := [4]) (by kernel_rfl) (by simp) ?_
          refine AllReadyH.cons (by first | (simp only [List.getElem?_toArray, List.getElem?_cons_succ, List.getElem?_cons_zero] <;> rfl) | rfl) (fun K hK => ?_) ?_
          · skip
            go_simp
            refine (Rec.stronger_any z y _ Hz.out Hy.out).mono ?_
            rintro e wd ⟨rfl, rfl⟩
            refine hK.out _ _ hHeld2 (fun hHeld3 => ?_)
            clear hK K hHeld2
            try simp only [Act.put, List.setIfInBounds_toArray, List.set_cons_zero, List.set_cons_succ]
            refine wpAnyH_ready (rs := [5]) (by kernel_rfl) (by simp) ?_
            refine AllReadyH.cons (by first | (simp only [List.getElem?_toArray, List.getElem?_cons_succ, List.getElem?_cons_zero] <;> rfl) | rfl) (fun K hK => ?_) ?_
            · skip
              have s0 := HG.out.cell 0 rfl
              have f0 := HG.out.fz 0
              have l0 := HG.out.lt
              go_simp
              refine hK.out _ _ (HmkS.out _ (HI.out.grown (only_set _ (w.heap.size + 1) 0 _) (by simp; omega)) (HX.out.grown (only_set _ (w.heap.size + 1) 0 _) (by simp))) (fun hHeld4 => ?_)
              clear hK K s0 f0 l0 hHeld3
              try simp only [Act.put, List.setIfInBounds_toArray, List.set_cons_zero, List.set_cons_succ]
              refine wpAnyH_done (by kernel_rfl) ?_ _
              refine OnlyR.here ?_
              exact ⟨_, HBc, rfl⟩
            exact AllReadyH.nil
          exact AllReadyH.nil
        exact AllReadyH.nil
      exact AllReadyH.nil
    case imp =>
      rintro w' ⟨wc, HBc, rfl⟩
      gi_wp2
      have hs := only_set wc (w.heap.size + 1) 0 (.int .u32 (Rec.stg z y : Nat))
      have hb1 : Below w.heap.size w wc := HBW.out.trans (HBc.out.mono HBW.out.size)
      have hb2 := hb1.grown hs hb1.size (fun r e => by cases e; omega)
      refine ⟨(keeps_below HBc.out).trans ((KeepsOthers.setCell _ _ _).from _), ⟨below_between HBW.out hb2 (Nat.le_trans HBc.out.size (by simp)), ?_⟩, ⟨⟨(HX.out.kept HBc.out).grown hs (by simp), (HS.out.kept HBc.out).grown hs (by simp)⟩, ?_⟩, hb2⟩
      · exact (((HS.out.kept HBc.out).grown hs (by simp)) : _ = _).trans (HS.out : _ = _).symm
      · rw [Hst.out]
        exact (HG.out.kept HBc.out).set 0 _
  case done =>
    rintro D' ys W hD' rfl ⟨⟨⟨bX, bS⟩, bG⟩, hbel⟩ hK
    rw [Hd.out] at bG
    have cX := bG.cell 0 rfl
    gi_wp2
    refine ⟨by simp, .inl ⟨_, _, rfl, run_takeDeferred hK, ?_⟩⟩
    exact ⟨_, results_tmp rfl _ _ _, rfl, hbel.trans (belowK_b (w := w) (Nat.le_refl _) W D' _ _ (by omega) hK rfl rfl)⟩
  case stop =>
    rintro D' c pre W _ _ h _
    exact h.elim
end Go.Proofs.Ytagbamengcnfeaa.Me
