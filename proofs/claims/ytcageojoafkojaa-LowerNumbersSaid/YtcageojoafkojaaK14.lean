/- Sorting that keeps the order of equals, by arrays alone: what merging in place, by rotations, comes tQ. -/
import Derived.Sort.Defs
import Derived.Sort.Statements
import Derived.Sort.LotA
import Derived.Test.YtcageojoafkojaaK13
import Derived.Test.YtcageojoafkojaaK12
import Derived.Shelf.SlSortCmp.InsertionK
import Derived.Deep.RegionWith
import Derived.Deep.CutRange
import Derived.Deep.CutBlock
import Derived.StillTailTactics
import Derived.Outline
import Derived.Deep.RegionHeld3
import Derived.Deep.RegionLaw
import Derived.OwnWalk
import Derived.Deep.LoopGhost
import Derived.Laws.RangeAny
import Derived.Laws.OwnMore
import Derived.Deep.QuietTactic
import Derived.BigQuiet
import Derived.Test.YtcageojoafkojaaK01
import Derived.Laws.BitsAllLaws
import Derived.Test.YtcageojoafkojaaK02
import Derived.Maps.OwnOps
import Derived.Maps.Views
namespace Go.Proofs.Ytcageojoafkojaa.Ir
open Go.Sort
section
variable {α : Type} [Inhabited α] {lt : α → α → Bool}
/-- Of one class: neither is less. -/
def eqv (lt : α → α → Bool) (c x : α) : Bool := !lt c x && !lt x c
/-- The same things, those of each class in their order. -/
def Stab (lt : α → α → Bool) (l l' : List α) : Prop := ∀ c, l'.filter (eqv lt c) = l.filter (eqv lt c)
omit [Inhabited α] in
theorem Stab.refl (l : List α) : Stab lt l l := fun _ => rfl
omit [Inhabited α] in
theorem Stab.trans {a b c : List α} (h : Stab lt a b) (h' : Stab lt b c) : Stab lt a c := fun x => (h' x).trans (h x)
omit [Inhabited α] in
theorem Stab.app {a b a' b' : List α} (h : Stab lt a a') (h' : Stab lt b b') : Stab lt (a ++ b) (a' ++ b') := fun x => by
  rw [List.filter_append, List.filter_append, h x, h' x]
omit [Inhabited α] in
theorem eqv_self (hO : SWO lt) (x : α) : eqv lt x x = true := by simp [eqv, hO.irrefl]
omit [Inhabited α] in
theorem Stab.mem (hO : SWO lt) {l l' : List α} (h : Stab lt l l') {x : α} (hx : x ∈ l') : x ∈ l := by
  have h1 : x ∈ l'.filter (eqv lt x) := List.mem_filter.2 ⟨hx, eqv_self hO x⟩
  rw [h x] at h1
  exact (List.mem_filter.1 h1).1
omit [Inhabited α] in
omit [Inhabited α] in
omit [Inhabited α] in
omit [Inhabited α] in
omit [Inhabited α] in
omit [Inhabited α] in
omit [Inhabited α] in
/-- A part of a list. -/
def seg (l : List α) (i j : Nat) : List α := (l.drop i).take (j - i)
omit [Inhabited α] in
theorem seg_len (l : List α) {i j : Nat} (h : j ≤ l.length) : (seg l i j).length = j - i := by unfold seg; simp; omega
omit [Inhabited α] in
theorem seg_split (l : List α) {i j k : Nat} (h1 : i ≤ j) (h2 : j ≤ k) : seg l i k = seg l i j ++ seg l j k := by
  unfold seg
  have e : k - i = (j - i) + (k - j) := by omega
  rw [e, List.take_add, List.drop_drop]
  congr 2
  congr 1
  omega
omit [Inhabited α] in
theorem seg_all (l : List α) : seg l 0 l.length = l := by unfold seg; simp
omit [Inhabited α] in
/-- Of an array, a part turned; those of each class in their order. -/
structure Moved (lt : α → α → Bool) (a b : Nat) (d d' : Array α) : Prop where
  size : d'.size = d.size
  low : seg d'.toList 0 a = seg d.toList 0 a
  high : seg d'.toList b d.size = seg d.toList b d.size
  stab : Stab lt (seg d.toList a b) (seg d'.toList a b)
omit [Inhabited α] in
theorem Moved.refl (a b : Nat) (d : Array α) : Moved lt a b d d := ⟨rfl, rfl, rfl, Stab.refl _⟩
omit [Inhabited α] in
theorem Moved.trans {a b : Nat} {d d' d'' : Array α} (h : Moved lt a b d d') (h' : Moved lt a b d' d'') : Moved lt a b d d'' := by
  have e := h'.high
  rw [h.size] at e
  exact ⟨h'.size.trans h.size, h'.low.trans h.low, e.trans h.high, h.stab.trans h'.stab⟩
omit [Inhabited α] in
theorem seg_sub {l l' : List α} {i j a b : Nat} (h : seg l' i j = seg l i j) (h1 : i ≤ a) (h3 : b ≤ j) : seg l' a b = seg l a b := by
  have e : ∀ l : List α, seg l a b = ((seg l i j).drop (a - i)).take (b - a) := fun l => by
    unfold seg
    rw [List.drop_take, List.take_take, List.drop_drop, Nat.min_eq_left (by omega), show i + (a - i) = a from by omega]
  rw [e, e, h]
omit [Inhabited α] in
theorem Moved.wide {a b a' b' : Nat} {d d' : Array α} (h : Moved lt a b d d') (h1 : a' ≤ a) (h2 : b ≤ b') (hab : a ≤ b) (hb : b' ≤ d.size) : Moved lt a' b' d d' := by
  refine ⟨h.size, seg_sub h.low (Nat.le_refl _) h1, seg_sub h.high h2 (Nat.le_refl _), ?_⟩
  rw [seg_split _ h1 (show a ≤ b' by omega), seg_split d.toList hab h2, seg_split _ h1 (show a ≤ b' by omega), seg_split d'.toList hab h2, seg_sub h.low (Nat.zero_le _) (Nat.le_refl a), seg_sub h.high (Nat.le_refl _) hb]
  exact (Stab.refl _).app (h.stab.app (Stab.refl _))
omit [Inhabited α] in
omit [Inhabited α] in
theorem arr_all (d : Array α) : seg d.toList 0 d.size = d.toList := by
  have := seg_all d.toList
  simpa using this
omit [Inhabited α] in
theorem app_cancel {a b c d : List α} (h : a ++ b = c ++ d) (hl : a.length = c.length) : a = c ∧ b = d := List.append_inj h hl
omit [Inhabited α] in
/-- An array put together of parts: each part is what stands there. -/
theorem parts {d' : Array α} {p u s : List α} {a b : Nat} (h : d'.toList = p ++ (u ++ s)) (ha : p.length = a) (hb : u.length = b - a) (hab : a ≤ b) : seg d'.toList 0 a = p ∧ seg d'.toList a b = u ∧ seg d'.toList b d'.size = s := by
  have hz : d'.size = p.length + (u.length + s.length) := by rw [← Array.length_toList, h]; simp
  have e := arr_all d'
  rw [seg_split d'.toList (Nat.zero_le a) (show a ≤ d'.size by omega), seg_split d'.toList hab (show b ≤ d'.size by omega)] at e
  have l1 : (seg d'.toList 0 a).length = a - 0 := seg_len _ (by simp; omega)
  have l2 : (seg d'.toList a b).length = b - a := seg_len _ (by simp; omega)
  have e' : seg d'.toList 0 a ++ (seg d'.toList a b ++ seg d'.toList b d'.size) = p ++ (u ++ s) := e.trans h
  obtain ⟨e1, e2⟩ := app_cancel e' (by omega)
  obtain ⟨e3, e4⟩ := app_cancel e2 (by omega)
  exact ⟨e1, e3, e4⟩
omit [Inhabited α] in
end
section
variable {α : Type} [Inhabited α] {lt : α → α → Bool}
omit [Inhabited α] in
omit [Inhabited α] in
omit [Inhabited α] in
theorem four {d' : Array α} {p q r s t : List α} (h : d'.toList = p ++ (q ++ (r ++ (s ++ t)))) {a b c e z : Nat} (ha : p.length = a) (hb : q.length = b - a) (hc : r.length = c - b) (he : s.length = e - c) (hz : t.length = z - e) (h1 : a ≤ b) (h2 : b ≤ c) (h3 : c ≤ e) (h4 : e ≤ z) :
    d'.size = z ∧ seg d'.toList 0 a = p ∧ seg d'.toList a b = q ∧ seg d'.toList b c = r ∧ seg d'.toList c e = s ∧ seg d'.toList e z = t := by
  have hs : d'.size = z := by rw [← Array.length_toList, h]; simp only [List.length_append]; omega
  obtain ⟨e1, e2, _⟩ := parts (a := a) (b := b) h ha hb h1
  obtain ⟨_, e3, _⟩ := parts (d' := d') (p := p ++ q) (u := r) (s := s ++ t) (a := b) (b := c) (by rw [h]; simp) (by simp; omega) hc h2
  obtain ⟨_, e4, e5⟩ := parts (d' := d') (p := p ++ (q ++ r)) (u := s) (s := t) (a := c) (b := e) (by rw [h]; simp) (by simp; omega) he h3
  rw [hs] at e5
  exact ⟨hs, e1, e2, e3, e4, e5⟩
omit [Inhabited α] in
omit [Inhabited α] in
omit [Inhabited α] in
omit [Inhabited α] in
omit [Inhabited α] in
omit [Inhabited α] in
end
end Go.Proofs.Ytcageojoafkojaa.Ir
namespace Go.Proofs.Ytcageojoafkojaa.Ir
open Go.RowKit Go.Shelf Go.Sort Go.Proofs.Ytcageojoafkojaa.Rec
theorem isnan_any (x : Int) (w : World) : Calls Try.prog 95 #[.int .u32 x] w fun e w' => e = .returned (.bool false) ∧ w = w' := by
  go_enter Try.func95, Try.ntmps95
  go_wp2
  go_ret
  exact ⟨by simp, rfl⟩
theorem compare_any (x y : Int) (w : World) : Calls Try.prog 66 #[.int .u32 x, .int .u32 y] w fun e w' => e = .returned (.int .i64 (if x < y then -1 else if y < x then 1 else 0)) ∧ w = w' := by
  by_cases h1 : x < y
  · rw [if_pos h1]
    go_enter Try.func66, Try.ntmps66
    go_wp2_with (go_at_call 95; refine (isnan_any _ _).mono ?_; rintro e w1 ⟨rfl, rfl⟩)
    go_ret
    exact ⟨rfl, rfl⟩
  · rw [if_neg h1]
    by_cases h2 : y < x
    · rw [if_pos h2]
      go_enter Try.func66, Try.ntmps66
      go_wp2_with (go_at_call 95; refine (isnan_any _ _).mono ?_; rintro e w1 ⟨rfl, rfl⟩)
      go_ret
      exact ⟨rfl, rfl⟩
    · rw [if_neg h2]
      go_enter Try.func66, Try.ntmps66
      go_wp2_with (go_at_call 95; refine (isnan_any _ _).mono ?_; rintro e w1 ⟨rfl, rfl⟩)
      go_ret
      exact ⟨rfl, rfl⟩
/-- A rule that a Go value may be. -/
def RV := { r : RuleV // r.m.num < 4294967296 ∧ r.m.act < 4294967296 }
instance : Inhabited RV := ⟨⟨⟨⟨0, 0, []⟩, none, 0⟩, by decide, by decide⟩⟩
def RV.enc (x : RV) : List Value := x.1.cells
/-- The order. -/
def ordF (a b : RuleM) : Int := if a.num < b.num then -1 else if b.num < a.num then 1 else if strN b.act < strN a.act then -1 else if strN a.act < strN b.act then 1 else 0
def cf (x y : RV) : Int := ordF x.1.m y.1.m
end Go.Proofs.Ytcageojoafkojaa.Ir
namespace Go.Proofs.Ytcageojoafkojaa.Ir
open Go.RowKit Go.Shelf Go.Sort
theorem never_any (c : CondM) (w : World) (hc : c.ok) : Calls Try.prog 97 #[.agg c.cells.toArray] w fun e w' => e = .returned (.bool (neverB c)) ∧ ∃ os, w' = grow w os := by
  obtain ⟨a, o, m, v⟩ := c
  show Calls Try.prog 97 #[.agg #[.int .i64 a, .int .u8 o, .int .u64 m, .int .u64 v]] w fun e w' => e = .returned (.bool (neverB ⟨a, o, m, v⟩)) ∧ ∃ os, w' = grow w os
  have e0 : neverB ⟨a, o, m, v⟩ = decide (o = 3 ∧ v = 0 ∨ o = 5 ∧ v = 18446744073709551615) := rfl
  rw [e0]
  by_cases h1 : (o : Int) = 3 <;> by_cases h2 : (v : Int) = 0 <;> by_cases h3 : (o : Int) = 5 <;> by_cases h4 : (v : Int) = 18446744073709551615 <;> first | (exfalso; omega) | skip
  all_goals
    first | rw [decide_eq_true (show o = 3 ∧ v = 0 ∨ o = 5 ∧ v = 18446744073709551615 by omega)] | rw [decide_eq_false (show ¬ (o = 3 ∧ v = 0 ∨ o = 5 ∧ v = 18446744073709551615) by omega)]
    clear e0 hc
    go_enter Try.func97, Try.ntmps97
    go_wp2
    go_ret
    exact ⟨by first | rfl | simp_all, _, by rw [alloc_eq_grow]⟩
theorem always_any (c : CondM) (w : World) (hc : c.ok) : Calls Try.prog 98 #[.agg c.cells.toArray] w fun e w' => e = .returned (.bool (alwaysB c)) ∧ ∃ os, w' = grow w os := by
  obtain ⟨a, o, m, v⟩ := c
  show Calls Try.prog 98 #[.agg #[.int .i64 a, .int .u8 o, .int .u64 m, .int .u64 v]] w fun e w' => e = .returned (.bool (alwaysB ⟨a, o, m, v⟩)) ∧ ∃ os, w' = grow w os
  have e0 : alwaysB ⟨a, o, m, v⟩ = decide (0 ≤ a ∧ a ≤ 5 ∧ (o = 6 ∧ v = 0 ∨ o = 4 ∧ v = 18446744073709551615)) := rfl
  rw [e0]
  by_cases ha : a < 0
  · rw [decide_eq_false (by omega)]
    clear e0 hc
    go_enter Try.func98, Try.ntmps98
    go_wp2
    go_ret
    exact ⟨by first | rfl | simp_all, _, by rw [alloc_eq_grow]⟩
  by_cases hb : 6 ≤ a
  · rw [decide_eq_false (by omega)]
    clear e0 hc
    go_enter Try.func98, Try.ntmps98
    go_wp2
    go_ret
    exact ⟨by first | rfl | simp_all, _, by rw [alloc_eq_grow]⟩
  have ha2 : 0 ≤ a := by omega
  have hb2 : a ≤ 5 := by omega
  by_cases h1 : (o : Int) = 6 <;> by_cases h2 : (v : Int) = 0 <;> by_cases h3 : (o : Int) = 4 <;> by_cases h4 : (v : Int) = 18446744073709551615 <;> first | (exfalso; omega) | skip
  all_goals
    first | rw [decide_eq_true (show 0 ≤ a ∧ a ≤ 5 ∧ (o = 6 ∧ v = 0 ∨ o = 4 ∧ v = 18446744073709551615) by omega)] | rw [decide_eq_false (show ¬ (0 ≤ a ∧ a ≤ 5 ∧ (o = 6 ∧ v = 0 ∨ o = 4 ∧ v = 18446744073709551615)) by omega)]
    clear e0 hc
    go_enter Try.func98, Try.ntmps98
    go_wp2
    go_ret
    exact ⟨by first | rfl | simp_all, _, by rw [alloc_eq_grow]⟩
end Go.Proofs.Ytcageojoafkojaa.Ir
namespace Go.Proofs.Ytcageojoafkojaa
open Go.RowKit
def Same9 (v : Value) (w : World) (e : Ending) (w' : World) : Prop := e = .returned v ∧ w = w'
end Go.Proofs.Ytcageojoafkojaa
namespace Go.Proofs.Ytcageojoafkojaa
open Go.RowKit
/-- A number has a bit that another one hasn't. -/
theorem bits_left (a b : Nat) (ha : a < 18446744073709551616) (hb : b < 18446744073709551616) : (a &&& (18446744073709551615 - b) = 0) ↔ a &&& b = a := by
  have e : 18446744073709551615 - b = 2 ^ 64 - (b + 1) := by have : (2 : Nat) ^ 64 = 18446744073709551616 := by decide
                                                             omega
  have hb2 : b < 2 ^ 64 := by have : (2 : Nat) ^ 64 = 18446744073709551616 := by decide
                              omega
  rw [e]
  have hig : ∀ i, 64 ≤ i → a.testBit i = false := fun i hi => Nat.testBit_lt_two_pow (Nat.lt_of_lt_of_le ha (by have := Nat.pow_le_pow_right (show 2 > 0 by omega) hi; simpa using this))
  constructor
  · intro h
    apply Nat.eq_of_testBit_eq
    intro i
    have := congrArg (fun n => Nat.testBit n i) h
    simp only [Nat.testBit_and, Nat.testBit_two_pow_sub_succ hb2, Nat.zero_testBit] at this ⊢
    by_cases hi : i < 64
    · cases h1 : a.testBit i <;> cases h2 : b.testBit i <;> simp_all
    · rw [hig i (by omega)]; rfl
  · intro h
    apply Nat.eq_of_testBit_eq
    intro i
    have := congrArg (fun n => Nat.testBit n i) h
    simp only [Nat.testBit_and, Nat.testBit_two_pow_sub_succ hb2, Nat.zero_testBit] at this ⊢
    by_cases hi : i < 64
    · cases h1 : a.testBit i <;> cases h2 : b.testBit i <;> simp_all
    · rw [hig i (by omega)]; rfl

end Go.Proofs.Ytcageojoafkojaa
namespace Go.Proofs.Ytcageojoafkojaa
open Go.RowKit
end Go.Proofs.Ytcageojoafkojaa
namespace Go.Proofs.Ytcageojoafkojaa
open Go.RowKit

theorem cond_cells {w : World} {b o k : Nat} {l : List CondM} {x : CondM} (hc : ∀ k x, l[k]? = some x → ∀ j v, (CondM.cells x)[j]? = some v → w.cell? ⟨b, o + (k * 4 + j), none⟩ = some v) (h : l[k]? = some x) :
    w.cell? ⟨b, o + k * 4, none⟩ = some (.int .i64 x.arg) ∧ w.cell? ⟨b, o + k * 4 + 1, none⟩ = some (.int .u8 x.op) ∧ w.cell? ⟨b, o + k * 4 + 2, none⟩ = some (.int .u64 x.mask) ∧ w.cell? ⟨b, o + k * 4 + 3, none⟩ = some (.int .u64 x.val) :=
  ⟨by have := hc k x h 0 _ rfl; simpa using this, by have := hc k x h 1 _ rfl; simpa [Nat.add_assoc] using this, by have := hc k x h 2 _ rfl; simpa [Nat.add_assoc] using this, by have := hc k x h 3 _ rfl; simpa [Nat.add_assoc] using this⟩
end Go.Proofs.Ytcageojoafkojaa
namespace Go.Proofs.Ytcageojoafkojaa
open Go.RowKit
/-- The first things of a slice. -/
theorem Rd.take {α : Type} {f : α → List Value} {w : World} {z n : Nat} {A : Option Addr} {l : List α} (h : Rd w z n A (l.flatMap f)) (hf : ∀ x, (f x).length = z) (hz : 0 < z) (hl : l.length = n) (k : Nat) (hk : k ≤ n) : Rd w z k A ((l.take k).flatMap f) := by
  refine ⟨by rw [flatz_len f z hf, List.length_take, hl, Nat.min_eq_left hk], ?_⟩
  rcases Nat.eq_zero_or_pos k with h0 | h0
  · exact .inl h0
  · right
    obtain ⟨b, o, e, hb, hc⟩ := h.pos (by omega)
    refine ⟨b, o, e, hb, fun j u hu => hc j u ?_⟩
    have hj : j = j / z * z + j % z := by rw [Nat.mul_comm]; exact (Nat.div_add_mod j z).symm
    have hm : j % z < z := Nat.mod_lt _ hz
    rw [hj, flatz f z hf hz _ _ _ hm] at hu ⊢
    obtain ⟨x, hx, hv⟩ := Option.bind_eq_some_iff.1 hu
    rw [List.getElem?_take] at hx
    split at hx
    · rw [hx]; exact hv
    · cases hx
theorem one_alloc (w : World) (o : Obj) : Below w.heap.size w (w.alloc o) := (Below.refl _ _).alloc (Nat.le_refl _) _
end Go.Proofs.Ytcageojoafkojaa
namespace Go.Proofs.Ytcageojoafkojaa
open Go.RowKit
end Go.Proofs.Ytcageojoafkojaa
namespace Go.Proofs.Ytcageojoafkojaa
open Go.RowKit Go.WideElems
/-- One condition behind a rule's row: what the append answers, what the store behind it leaves. -/
theorem XB.run {K : Kd} {ws wx : World} {xb : Nat} {a0 a1 cv : Value} {l : List CondM} (h : XB K ws wx xb a0 a1 cv l) (c : CondM) {t ty : TypeId} {zero : Value} {bytes : Nat}
    (hinfo : (Try.prog.info? K.tC).map (fun i => (i.zero, i.size, i.bytes)) = some (some zero, 4, bytes)) (hzs : zero.cells.size = 4) (ht : Try.prog.underlying t = some (.slice K.tC)) (hby : bytes ≤ 64) (_ : 0 < 4) (hl : l.length ≤ 1000) (news : Array Value) (hn : news.toList = K.fC c) (h1 : ∀ u ∈ K.fC c, u.oneCell' = true) :
    ∃ v' wb, (Builtin.append_ #[t, t] ty #[cv, .slice (some ⟨wx.heap.size, 0, none⟩) 1 1]).run Try.prog (wx.alloc (.cells news K.tC)) = .ok v' wb ∧
      Bk wb xb K.tR [a0, a1, cv] ∧ XB K ws (wb.setCell ⟨xb, 2, none⟩ v') xb a0 a1 v' (l ++ [c]) := by
  obtain ⟨i0, hi, hz0, hz1, hz2⟩ := info_parts hinfo
  have hk := h.kept (one_alloc wx (.cells news K.tC))
  have hB : Bk (wx.alloc (.cells news K.tC)) wx.heap.size K.tC (K.fC c) := Bk.new wx K.tC news (by rw [← hn])
  obtain ⟨v', wb, hr, ho, hg, _, _⟩ := run_append_own_at (P := Try.prog) (wx.alloc (.cells news K.tC)) ws.heap.size t ty K.tC i0 zero 4 bytes ht hi hz0 hz1 hz2 hzs (by decide) cv l.length (l.flatMap K.fC) hk.own ⟨wx.heap.size, 0, none⟩ 1 1 (K.fC c) (by rw [K.hC]) (fun j u hu => by rw [addr_at, Nat.zero_add]; exact hB.cell j hu) h1 (by unfold maxLen; omega) (by have : (l.length + 1) * bytes ≤ 1001 * 64 := Nat.mul_le_mul (by omega) hby; omega) (Nat.le_trans h.grow.size (by simp))
  obtain ⟨_, _, _, _, _, hty, _⟩ := own_typed hk.own
  exact ⟨v', wb, hr, hk.x.appended hg hty K.n1.symm, hk.add c ho hg⟩
theorem op_append {o : Oper} {a : Act} {w : World} {K : Act → World → Prop} {Q : Exit → Act → World → Prop} (s x : Operand) (t : TypeId) (ho : o.op = .call { callee := .builtin .append, args := #[s, x], argTypes := #[t, t] })
    (v y v' : Value) (w' : World) (hs : a.eval s = v) (hx : a.eval x = y) (hr : (Builtin.append_ #[t, t] o.type #[v, y]).run Try.prog w = .ok v' w') (h : K (a.put o.dst v') w') : Oper.wp Try.prog o a w K Q := by
  unfold Oper.wp execOp
  simp only [ho, resolve, invoke, builtin, Sem.run_bind, Sem.run_pure, Result.andThen_ok, List.map_toArray, List.map_cons, List.map_nil, hs, hx, hr]
  exact h
end Go.Proofs.Ytcageojoafkojaa
namespace Go.Proofs.Ytcageojoafkojaa
end Go.Proofs.Ytcageojoafkojaa
namespace Go.Proofs.Ytcageojoafkojaa
open Go.RowKit Go.Maps

def refCells (r : Row) : List Value := [.int .i64 r.1, .string ⟨r.2.1.toArray⟩, .int .i64 r.2.2]
def refTable : Array Value := (rows.flatMap refCells).toArray
def RefSrc (w : World) (t : Nat) : Prop := w.heap[t]? = some (.cells refTable 101 (0, 0))

theorem ref_at (k j : Nat) (hk : k < 30) (hj : j < 3) : refTable[k * 3 + j]? = (refCells (rowAt k))[j]? := by
  have hl : k < rows.length := by rw [rows_len]; exact hk
  have h := flat_at refCells (fun _ => rfl) rows k j hj
  unfold refTable
  rw [List.getElem?_toArray, h, List.getElem?_eq_getElem hl, rowAt, List.getD_eq_getElem?_getD, List.getElem?_eq_getElem hl]
  rfl
theorem RefSrc.cell {w : World} {t : Nat} (h : RefSrc w t) (k : Nat) (hk : k < 30) :
    w.cell? ⟨t, k * 3, none⟩ = some (.int .i64 (rowAt k).1) ∧ w.cell? ⟨t, k * 3 + 1, none⟩ = some (.string ⟨(rowAt k).2.1.toArray⟩) ∧ w.cell? ⟨t, k * 3 + 2, none⟩ = some (.int .i64 (rowAt k).2.2) := by
  simp only [RefSrc] at h
  have h0 : refTable[k * 3]? = _ := ref_at k 0 hk (by omega)
  have h1 := ref_at k 1 hk (by omega)
  have h2 := ref_at k 2 hk (by omega)
  simp only [World.cell?, h]
  exact ⟨h0, h1, h2⟩
end Go.Proofs.Ytcageojoafkojaa
namespace Go.Proofs.Ytcageojoafkojaa
open Go.RowKit
theorem fail_any (n : Nat) (w : World) (h : n < 256) : Calls Try.prog 23 #[.int .i64 (1 + (n : Int))] w (Same9 (.int .u32 ((327680 + (1 + n) : Nat) : Int)) w) := by
  obtain ⟨m, hm⟩ : ∃ m, m = 1 + n := ⟨_, rfl⟩
  rw [← hm, show (1 : Int) + (n : Int) = (m : Int) by omega]
  have h1 : m ≤ 4095 := by omega
  have h2 : max (m : Int) 0 = (m : Int) := by omega
  have h3 : min (m : Int) 4095 = (m : Int) := by omega
  have h4 : IntKind.u32.wrap (m : Int) = (m : Int) := by rw [IntKind.wrap_u32]; omega
  have h5 := Rec.orErrno m (by omega)
  clear hm h
  go_enter Try.func23, Try.ntmps23
  go_wp2_with fail
  go_ret
  exact ⟨rfl, rfl⟩
end Go.Proofs.Ytcageojoafkojaa
namespace Go.Proofs.Ytcageojoafkojaa
open Go.RowKit
end Go.Proofs.Ytcageojoafkojaa
namespace Go.Proofs.Ytcageojoafkojaa
open Go.RowKit
end Go.Proofs.Ytcageojoafkojaa
namespace Go.Proofs.Ytcageojoafkojaa
open Go.RowKit Go.Maps Go.WideMaps Go.WideElems Go.ChangeMaps
def boolR (v : Value) : Option (DataW Unit × List MemPlace) := match v with | .bool b => some (.lit (.bool b), []) | _ => none
theorem boolR_inv {v : Value} {b : Bool} {ps : List MemPlace} (h : boolR v = some (.lit (.bool b), ps)) : v = .bool b := by
  unfold boolR at h
  split at h
  · simp at h; rw [h.1]
  · cases h
def seenD (keys : List Lit) : DataW Unit := keys.foldl (fun d k => d.put k (.lit (.bool true))) (.map [])
theorem seenD_snoc (keys : List Lit) (k : Lit) : seenD (keys ++ [k]) = (seenD keys).put k (.lit (.bool true)) := by unfold seenD; rw [List.foldl_append]; rfl
theorem seenD_map : ∀ (keys : List Lit) (D : DataW Unit), IsMap D → IsMap (keys.foldl (fun d k => d.put k (.lit (.bool true))) D)
  | [], _, h => h
  | _ :: r, _, h => seenD_map r _ (h.put _ _)
open Classical in
theorem seen_at (keys : List Lit) (hk : ∀ k ∈ keys, WideAt.IsKeyLit k) (k : Lit) : (seenD keys).atKey k (.lit (.bool false)) = .lit (.bool (decide (k ∈ keys))) := by
  suffices ∀ l : List Lit, (∀ k ∈ l, WideAt.IsKeyLit k) → (seenD l.reverse).atKey k (.lit (.bool false)) = .lit (.bool (decide (k ∈ l.reverse))) by
    have := this keys.reverse (fun k hk' => hk k (by simpa using hk'))
    rwa [List.reverse_reverse] at this
  intro l
  induction l with
  | nil => intro _; rfl
  | cons a l ih =>
    intro h
    rw [List.reverse_cons, seenD_snoc]
    by_cases e : k = a
    · subst e
      have hm : IsMap (seenD l.reverse) := seenD_map _ _ ⟨[], rfl⟩
      rw [atKey_put_same hm (h k (by simp))]
      simp
    · rw [atKey_put_other e, ih (fun x hx => h x (by simp [hx]))]
      congr 2
      simp [e]
theorem strK : Keyed Try.prog 9 := string_keyed Try.underlying9
theorem u16K : Keyed Try.prog 25 := int_keyed Try.underlying25
/-- The maps of what was seen. -/
def SeenS (w : World) (mB n : Nat) (l : List Bs) : Prop := w.ownsMap Try.prog 9 boolR mB n (seenD (l.map fun s => Lit.string s))
def SeenN (w : World) (mB n : Nat) (l : List Nat) : Prop := w.ownsMap Try.prog 25 boolR mB n (seenD (l.map fun (s : Nat) => Lit.int .u16 s))
theorem SeenS.blk {w : World} {mB n : Nat} {l : List Bs} (h : SeenS w mB n l) : ∃ es c, w.heap[mB]? = some (.map es c) := by obtain ⟨es, c, hb, _⟩ := h; exact ⟨es, c, hb⟩
theorem SeenN.blk {w : World} {mB n : Nat} {l : List Nat} (h : SeenN w mB n l) : ∃ es c, w.heap[mB]? = some (.map es c) := by obtain ⟨es, c, hb, _⟩ := h; exact ⟨es, c, hb⟩
theorem SeenS.below {w w' : World} {mB n : Nat} {l : List Bs} (h : SeenS w mB n l) (hb : Below w.heap.size w w') : SeenS w' mB n l := by
  obtain ⟨es, c, h1, h2⟩ := h
  exact ⟨es, c, (hb.block _ (Array.getElem?_eq_some_iff.1 h1).1).trans h1, h2⟩
theorem SeenN.below {w w' : World} {mB n : Nat} {l : List Nat} (h : SeenN w mB n l) (hb : Below w.heap.size w w') : SeenN w' mB n l := by
  obtain ⟨es, c, h1, h2⟩ := h
  exact ⟨es, c, (hb.block _ (Array.getElem?_eq_some_iff.1 h1).1).trans h1, h2⟩
theorem SeenS.grown {w w' : World} {mB n g : Nat} {l : List Bs} (h : SeenS w mB n l) (hg : w.grownBy w' (some g)) (hne : mB ≠ g) : SeenS w' mB n l := by
  obtain ⟨es, c, h1, h2⟩ := h
  exact ⟨es, c, (hg.block _ (Array.getElem?_eq_some_iff.1 h1).1 (fun e => hne (Option.some.inj e))).trans h1, h2⟩
theorem SeenN.grown {w w' : World} {mB n g : Nat} {l : List Nat} (h : SeenN w mB n l) (hg : w.grownBy w' (some g)) (hne : mB ≠ g) : SeenN w' mB n l := by
  obtain ⟨es, c, h1, h2⟩ := h
  exact ⟨es, c, (hg.block _ (Array.getElem?_eq_some_iff.1 h1).1 (fun e => hne (Option.some.inj e))).trans h1, h2⟩
theorem TyB.nemap {w : World} {b mB : Nat} {T : TypeId} (h : TyB w b T) (hm : ∃ es c, w.heap[mB]? = some (.map es c)) : b ≠ mB := by
  rintro rfl
  obtain ⟨_, _, h⟩ := h
  obtain ⟨_, _, hm⟩ := hm
  rw [h] at hm; cases hm
theorem SeenS.appended {w w' : World} {mB n : Nat} {l : List Bs} {v : Value} {U : TypeId} (h : SeenS w mB n l) (hg : w.grownBy w' v.ownBlock) (hv : ∀ b, v.ownBlock = some b → TyB w b U) : SeenS w' mB n l := by
  cases hb : v.ownBlock with
  | none => rw [hb] at hg; exact h.below ⟨hg.os, hg.tape, hg.output, hg.size, fun i hi => hg.block i hi (by simp)⟩
  | some g => rw [hb] at hg; exact h.grown hg (fun e => (hv g hb).nemap h.blk e.symm)
theorem SeenN.appended {w w' : World} {mB n : Nat} {l : List Nat} {v : Value} {U : TypeId} (h : SeenN w mB n l) (hg : w.grownBy w' v.ownBlock) (hv : ∀ b, v.ownBlock = some b → TyB w b U) : SeenN w' mB n l := by
  cases hb : v.ownBlock with
  | none => rw [hb] at hg; exact h.below ⟨hg.os, hg.tape, hg.output, hg.size, fun i hi => hg.block i hi (by simp)⟩
  | some g => rw [hb] at hg; exact h.grown hg (fun e => (hv g hb).nemap h.blk e.symm)
theorem zeroB (w : World) : (zeroValue 4).run Try.prog w = .ok (.bool false) w := by kernel_rfl
theorem SeenS.look {w : World} {mB n : Nat} {l : List Bs} (h : SeenS w mB n l) (s : Bs) (hs : s.length ≤ maxLen) : (Instr.lookup 105 (.map (some mB)) (.string ⟨s.toArray⟩) false).run Try.prog w = .ok (.bool (decide (s ∈ l))) w := by
  obtain ⟨v, ps, hr, hv⟩ := World.ownsMap.lookup h strK Try.underlying105 (zeroB w) (zd := .lit (.bool false)) (zp := []) rfl (keyOf_string_mk Try.underlying9 (s := ⟨s.toArray⟩) (by rw [Lib.size_eq]; exact hs))
  rw [show (⟨s.toArray⟩ : ByteArray).data.toList = s from rfl, seen_at _ (fun k hk => by obtain ⟨x, _, rfl⟩ := List.mem_map.1 hk; trivial)] at hv
  obtain rfl := boolR_inv hv
  rw [hr]
  refine congrArg (fun b => Result.ok (Value.bool b) w) ?_
  exact decide_eq_decide.2 ⟨fun h => by obtain ⟨x, hx, e⟩ := List.mem_map.1 h; cases e; exact hx, fun h => List.mem_map.2 ⟨s, h, rfl⟩⟩
theorem SeenN.look {w : World} {mB n : Nat} {l : List Nat} (h : SeenN w mB n l) (s : Nat) (hs : s < 65536) : (Instr.lookup 108 (.map (some mB)) (.int .u16 s) false).run Try.prog w = .ok (.bool (decide (s ∈ l))) w := by
  have hwf : (Lit.int .u16 (s : Int)).wf = true := WalkArith.wf_u16 ⟨by omega, by omega⟩
  obtain ⟨v, ps, hr, hv⟩ := World.ownsMap.lookup h u16K Try.underlying108 (zeroB w) (zd := .lit (.bool false)) (zp := []) rfl (keyOf_int_mk Try.underlying25 hwf)
  rw [seen_at _ (fun k hk => by obtain ⟨x, _, rfl⟩ := List.mem_map.1 hk; trivial)] at hv
  obtain rfl := boolR_inv hv
  rw [hr]
  refine congrArg (fun b => Result.ok (Value.bool b) w) ?_
  exact decide_eq_decide.2 ⟨fun h => by
    obtain ⟨x, hx, e⟩ := List.mem_map.1 h
    have : (x : Int) = (s : Int) := by injection e
    have : x = s := by omega
    subst this
    exact hx, fun h => List.mem_map.2 ⟨s, h, rfl⟩⟩
end Go.Proofs.Ytcageojoafkojaa
namespace Go.Proofs.Ytcageojoafkojaa
open Go.RowKit Go.WideElems Go.Maps Go.WideMaps Go.ChangeMaps
structure SC where
  a : Nat
  b : Nat
  m : Nat
  v : Nat
def SC.cells (c : SC) : List Value := [.int .u8 c.a, .int .u8 c.b, .int .u8 c.m, .int .u8 c.v]
def SC.ok (c : SC) : Prop := c.a < 256 ∧ c.b < 256 ∧ c.m < 256 ∧ c.v < 256
structure SRV where
  call : Nat
  act : Nat
  err : Nat
  conds : List SC
  A : Option Addr
  cap : Nat
def SRV.cells (r : SRV) : List Value := [.int .u8 r.call, .int .u8 r.act, .int .u8 r.err, .slice r.A r.conds.length r.cap]
def SRV.ok (r : SRV) : Prop := r.call < 256 ∧ r.act < 256 ∧ r.err < 256 ∧ r.conds.length ≤ maxLen ∧ ∀ c ∈ r.conds, c.ok
def dirs6 : List Bs := [[47], [47, 97], [47, 97, 47, 98], [47, 102], [47, 97, 47, 103], [47, 99]]
/-- No more things than there are, where none is twice. -/
theorem nodup_len {α : Type} [DecidableEq α] : ∀ (l k : List α), l.Nodup → (∀ x ∈ l, x ∈ k) → l.length ≤ k.length
  | [], _, _, _ => Nat.zero_le _
  | x :: l, k, hn, hs => by
    have hx : x ∈ k := hs x (by simp)
    have h2 := List.nodup_cons.1 hn
    have ih := nodup_len l (k.erase x) h2.2 (fun y hy => (List.mem_erase_of_ne (fun (e : y = x) => by subst e; exact h2.1 hy)).2 (hs y (by simp [hy])))
    rw [List.length_erase_of_mem hx] at ih
    have : 0 < k.length := List.length_pos_of_mem hx
    simp; omega
structure PtOk (hd : Nat) (pt : List (Bs × Nat)) : Prop where
  each : ∀ x ∈ pt, x.1 ∈ dirs6 ∧ grantB hd x.2 2047 = true ∧ x.2 < 65536
  once : (pt.map Prod.fst).Nodup
theorem PtOk.len {hd : Nat} {pt : List (Bs × Nat)} (h : PtOk hd pt) : pt.length ≤ 6 := by
  have := nodup_len (pt.map Prod.fst) dirs6 h.once (fun x hx => by obtain ⟨y, hy, rfl⟩ := List.mem_map.1 hx; exact (h.each y hy).1)
  simpa [dirs6] using this
structure PoOk (hd : Nat) (po : List (Nat × Nat)) : Prop where
  each : ∀ x ∈ po, (80 ≤ x.1 ∧ x.1 < 84) ∧ grantB hd x.2 49152 = true ∧ x.2 < 65536
  once : (po.map Prod.fst).Nodup
theorem PoOk.len {hd : Nat} {po : List (Nat × Nat)} (h : PoOk hd po) : po.length ≤ 4 := by
  have := nodup_len (po.map Prod.fst) [80, 81, 82, 83] h.once (fun x hx => by
    obtain ⟨y, hy, rfl⟩ := List.mem_map.1 hx
    have := (h.each y hy).1
    rcases (by omega : y.1 = 80 ∨ y.1 = 81 ∨ y.1 = 82 ∨ y.1 = 83) with e | e | e | e <;> rw [e] <;> simp)
  simpa using this
/-- Rows that the call owns: rules, paths, ports; conditions apart. -/
structure Rows4 (w : World) (B : Nat) (rs : List RuleV) (RA : Option Addr) (Rc : Nat) (pt : List (Bs × Nat)) (PA : Option Addr) (Pc : Nat) (po : List (Nat × Nat)) (QA : Option Addr) (Qc : Nat) : Prop where
  r : w.ownsRow B 47 3 (.slice RA rs.length Rc) rs.length (rs.flatMap RuleV.cells)
  c : ∀ x ∈ rs, TRd w 58 4 x.m.conds.length x.A (x.m.conds.flatMap CondM.cells)
  p : w.ownsRow B 92 2 (.slice PA pt.length Pc) pt.length (pt.flatMap pathC)
  q : w.ownsRow B 110 2 (.slice QA po.length Qc) po.length (po.flatMap portC)
/-- A policy of small numbers may be. -/
structure SmOk (nm : Bs) (act : Nat) (rs : List RuleV) (hd : Nat) (pt : List (Bs × Nat)) (po : List (Nat × Nat)) : Prop where
  name : wordB nm = true
  short : nm.length ≤ 5
  actOk : actB act = true
  act32 : act < 4294967296
  many : rs.length ≤ 12
  rule : ∀ r ∈ rs, ruleE r.m = 0 ∧ r.m.conds.length ≤ 4 ∧ r.m.ok
  hd16 : hd < 65536
  valid : hd &&& 14336 = 0
  path : PtOk hd pt
  port : PoOk hd po
theorem own_base {w : World} {B C : Nat} {e : TypeId} {z n : Nat} {v : Value} {xs : List Value} (h : w.ownsRow B e z v n xs) (hb : C ≤ B) : w.ownsRow C e z v n xs :=
  ⟨h.1, h.2.imp id fun ⟨g, cap, cur, e, h1, h2⟩ => ⟨g, cap, cur, e, Nat.le_trans hb h1, h2⟩⟩
/-- What region 2 leaves: the policy's own block, in some place. -/
def R2 (w2 : World) (F hd pB : Nat) (wx : World) : Prop :=
  ∃ (nm : Bs) (act : Nat), wordB nm = true ∧ nm.length ≤ 5 ∧ actB act = true ∧ act < 4294967296 ∧ Bk wx pB 30 [.string ⟨nm.toArray⟩, .int .u32 act, .slice none 0 0, .int .u16 hd, .slice none 0 0, .slice none 0 0] ∧ Below w2.heap.size w2 wx ∧ w2.heap.size ≤ pB ∧ act = F
end Go.Proofs.Ytcageojoafkojaa
namespace Go.Proofs.Ytcageojoafkojaa.Me
/-- A call as a filter sees it. -/
structure RcM where
  num : Nat
  arch : Nat
  at_ : Nat
  a0 : Nat
  a1 : Nat
  a2 : Nat
  a3 : Nat
  a4 : Nat
  a5 : Nat
def RcM.args (x : RcM) : List Nat := [x.a0, x.a1, x.a2, x.a3, x.a4, x.a5]
def RcM.cells (x : RcM) : List Value := [.int .u32 x.num, .int .u32 x.arch, .int .u64 x.at_, .int .u64 x.a0, .int .u64 x.a1, .int .u64 x.a2, .int .u64 x.a3, .int .u64 x.a4, .int .u64 x.a5]
def RcM.seen (x : RcM) : List Value := [.int .u32 x.num, .int .u32 x.arch, .int .u64 x.a0, .int .u64 x.a1, .int .u64 x.a2, .int .u64 x.a3, .int .u64 x.a4, .int .u64 x.a5]
structure RcM.ok (x : RcM) : Prop where
  num : x.num < 4294967296
  arch : x.arch < 4294967296
  at_ : x.at_ < 18446744073709551616
  a0 : x.a0 < 18446744073709551616
  a1 : x.a1 < 18446744073709551616
  a2 : x.a2 < 18446744073709551616
  a3 : x.a3 < 18446744073709551616
  a4 : x.a4 < 18446744073709551616
  a5 : x.a5 < 18446744073709551616
def RcM.arg (x : RcM) (k : Nat) : Nat := x.args.getD k 0
theorem six {k : Nat} (h : k < 6) : k = 0 ∨ k = 1 ∨ k = 2 ∨ k = 3 ∨ k = 4 ∨ k = 5 := by omega
theorem RcM.arg_cell (x : RcM) {k : Nat} (h : k < 6) : x.cells[3 + k]? = some (.int .u64 (x.arg k)) := by
  rcases six h with rfl | rfl | rfl | rfl | rfl | rfl <;> rfl
theorem RcM.ok.arg {x : RcM} (h : x.ok) {k : Nat} (hk : k < 6) : x.arg k < 18446744073709551616 := by
  rcases six hk with rfl | rfl | rfl | rfl | rfl | rfl
  · exact h.a0
  · exact h.a1
  · exact h.a2
  · exact h.a3
  · exact h.a4
  · exact h.a5
/-- Does a number fit a condition? -/
def opB (op mask val a : Nat) : Bool :=
  if op = 1 then decide (a = val) else if op = 2 then decide (a ≠ val) else if op = 3 then decide (a < val) else if op = 4 then decide (a ≤ val)
  else if op = 5 then decide (val < a) else if op = 6 then decide (val ≤ a) else if op = 7 then decide (a &&& mask = val) else false
def holdB (c : CondM) (x : RcM) : Bool := if c.arg < 0 ∨ 5 < c.arg then false else opB c.op c.mask c.val (x.arg c.arg.toNat)
def matB (r : RuleM) (x : RcM) : Bool := decide (r.num = x.num) && r.conds.all fun c => holdB c x
def stepB (x : RcM) (i : Nat) (r : RuleM) (b : Option (Nat × Nat)) : Option (Nat × Nat) :=
  if matB r x then (match b with | none => some (i, r.act) | some y => if Rec.strN y.2 < Rec.strN r.act then some (i, r.act) else some y) else b
def bestL (x : RcM) : Nat → List RuleM → Option (Nat × Nat) → Option (Nat × Nat)
  | _, [], b => b
  | i, r :: t, b => bestL x (i + 1) t (stepB x i r b)
def best (p : PolM) (x : RcM) : Option (Nat × Nat) := bestL x 0 p.rules none
/-- Where the best one stands. -/
def BOk (rules : List RuleM) (k : Nat) (b : Option (Nat × Nat)) : Prop := ∀ y, b = some y → y.1 < k ∧ ∃ r, rules[y.1]? = some r ∧ r.act = y.2
theorem BOk.step {rules : List RuleM} {k : Nat} {b : Option (Nat × Nat)} (h : BOk rules k b) {r : RuleM} (hr : rules[k]? = some r) (x : RcM) : BOk rules (k + 1) (stepB x k r b) := by
  intro y hy
  unfold stepB at hy
  split at hy
  · split at hy
    · cases hy; exact ⟨by simp, r, hr, rfl⟩
    · split at hy
      · cases hy; exact ⟨by simp, r, hr, rfl⟩
      · cases hy
        obtain ⟨h1, h2⟩ := h y rfl
        exact ⟨by omega, h2⟩
  · obtain ⟨h1, h2⟩ := h y hy
    exact ⟨by omega, h2⟩
theorem BOk.nil (rules : List RuleM) : BOk rules 0 none := fun y hy => by cases hy
end Go.Proofs.Ytcageojoafkojaa.Me
