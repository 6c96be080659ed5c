/- The opening fact. -/
import Derived.Deep.CutRange
import Derived.Deep.CutBlock
import Derived.StillTailTactics
import Derived.Outline
import Derived.Deep.RegionHeld3
import Derived.Deep.RegionLaw
import Derived.OwnWalk
import Derived.Deep.LoopGhost
import Derived.Laws.RangeAny
import Derived.Laws.OwnMore
import Derived.Test.YtgdoampokcpagaaGp
import Derived.Deep.QuietTactic
import Derived.Deep.RegionWith
import Derived.BigQuiet
import Derived.Test.YtgdoampokcpagaaGx
import Derived.Laws.BitsAllLaws
import Derived.Test.YtgdoampokcpagaaGc
namespace Go.Proofs.Ytgdoampokcpagaa
open Go.RowKit
def Same9 (v : Value) (w : World) (e : Ending) (w' : World) : Prop := e = .returned v ∧ w = w'
end Go.Proofs.Ytgdoampokcpagaa
namespace Go.Proofs.Ytgdoampokcpagaa
open Go.RowKit
def RetE (n : Nat) (w : World) (e : Ending) (w' : World) : Prop := e = .returned (.int .i64 n) ∧ Below w.heap.size w w'
theorem ret_of {n k : Nat} {w w' : World} {e : Ending} (h : n = k) (he : e = .returned (.int .i64 k)) (hb : Below w.heap.size w w') : RetE n w e w' := by subst h; exact ⟨he, hb⟩
/-- A number has a bit that another one hasn't. -/
theorem bits_left (a b : Nat) (ha : a < 18446744073709551616) (hb : b < 18446744073709551616) : (a &&& (18446744073709551615 - b) = 0) ↔ a &&& b = a := by
  have e : 18446744073709551615 - b = 2 ^ 64 - (b + 1) := by have : (2 : Nat) ^ 64 = 18446744073709551616 := by decide
                                                             omega
  have hb2 : b < 2 ^ 64 := by have : (2 : Nat) ^ 64 = 18446744073709551616 := by decide
                              omega
  rw [e]
  have hig : ∀ i, 64 ≤ i → a.testBit i = false := fun i hi => Nat.testBit_lt_two_pow (Nat.lt_of_lt_of_le ha (by have := Nat.pow_le_pow_right (show 2 > 0 by omega) hi; simpa using this))
  constructor
  · intro h
    apply Nat.eq_of_testBit_eq
    intro i
    have := congrArg (fun n => Nat.testBit n i) h
    simp only [Nat.testBit_and, Nat.testBit_two_pow_sub_succ hb2, Nat.zero_testBit] at this ⊢
    by_cases hi : i < 64
    · cases h1 : a.testBit i <;> cases h2 : b.testBit i <;> simp_all
    · rw [hig i (by omega)]; rfl
  · intro h
    apply Nat.eq_of_testBit_eq
    intro i
    have := congrArg (fun n => Nat.testBit n i) h
    simp only [Nat.testBit_and, Nat.testBit_two_pow_sub_succ hb2, Nat.zero_testBit] at this ⊢
    by_cases hi : i < 64
    · cases h1 : a.testBit i <;> cases h2 : b.testBit i <;> simp_all
    · rw [hig i (by omega)]; rfl

theorem cond_ways (arg : Int) (op mask val : Nat) : (arg < 0) ∨ (5 < arg) ∨ (0 ≤ arg ∧ arg ≤ 5 ∧ op < 1) ∨ (0 ≤ arg ∧ arg ≤ 5 ∧ 7 < op) ∨ (0 ≤ arg ∧ arg ≤ 5 ∧ 1 ≤ op ∧ op ≤ 6 ∧ mask ≠ 0) ∨ (0 ≤ arg ∧ arg ≤ 5 ∧ 1 ≤ op ∧ op ≤ 6 ∧ mask = 0) ∨ (0 ≤ arg ∧ arg ≤ 5 ∧ op = 7 ∧ mask = 0) ∨ (0 ≤ arg ∧ arg ≤ 5 ∧ op = 7 ∧ mask ≠ 0 ∧ val &&& mask ≠ val) ∨ (0 ≤ arg ∧ arg ≤ 5 ∧ op = 7 ∧ mask ≠ 0 ∧ val &&& mask = val) := by
  by_cases h1 : arg < 0
  · exact .inl h1
  by_cases h2 : 5 < arg
  · exact .inr (.inl h2)
  by_cases h3 : op < 1
  · exact .inr (.inr (.inl ⟨by omega, by omega, h3⟩))
  by_cases h4 : 7 < op
  · exact .inr (.inr (.inr (.inl ⟨by omega, by omega, h4⟩)))
  by_cases h5 : op = 7
  · by_cases h6 : mask = 0
    · exact .inr (.inr (.inr (.inr (.inr (.inr (.inl ⟨by omega, by omega, h5, h6⟩))))))
    · by_cases h7 : val &&& mask = val
      · exact .inr (.inr (.inr (.inr (.inr (.inr (.inr (.inr ⟨by omega, by omega, h5, h6, h7⟩)))))))
      · exact .inr (.inr (.inr (.inr (.inr (.inr (.inr (.inl ⟨by omega, by omega, h5, h6, h7⟩)))))))
  · by_cases h6 : mask = 0
    · exact .inr (.inr (.inr (.inr (.inr (.inl ⟨by omega, by omega, by omega, by omega, h6⟩)))))
    · exact .inr (.inr (.inr (.inr (.inl ⟨by omega, by omega, by omega, by omega, h6⟩))))
end Go.Proofs.Ytgdoampokcpagaa
namespace Go.Proofs.Ytgdoampokcpagaa
open Go.RowKit
theorem act_num {a : Nat} (h : a < 4294967296) (h1 : a ≠ 2147483648) (h2 : a ≠ 2147221504) (h3 : a ≠ 2147418112) : actB a = decide (1 ≤ Rec.numN a ∧ Rec.numN a ≤ 4095) := by
  by_cases h5 : a / 65536 = 5
  · have e : Rec.numN a = a % 65536 := by simp [Rec.numN, Rec.strN, h5]
    rw [e]
    unfold actB
    apply decide_eq_decide.2
    omega
  · have e2 : Rec.strN a ≠ 2 := by
      unfold Rec.strN
      rw [if_neg h5]
      split
      · omega
      · split <;> omega
    have e : Rec.numN a = 0 := by unfold Rec.numN; rw [if_neg e2]
    rw [e]
    unfold actB
    apply decide_eq_decide.2
    omega
theorem act_yes {a : Nat} (h : a = 2147483648 ∨ a = 2147221504 ∨ a = 2147418112) : actB a = true := by
  unfold actB
  apply decide_eq_true
  omega
def SaysB (b : Bool) (w : World) (e : Ending) (w' : World) : Prop := e = .returned (.bool b) ∧ w = w'
theorem sb_of {b c : Bool} {w w' : World} {e : Ending} (h : b = c) (he : e = .returned (.bool c)) (hb : w = w') : SaysB b w e w' := by subst h; exact ⟨he, hb⟩
/-- Within, Both. -/
def subP (a b k : Nat) : Prop := ∀ j, j < k → a.testBit j = true → b.testBit j = true
theorem sub_end {a b : Nat} (ha : a < 65536) (h : subP a b 16) : hasS b a = true := by
  unfold hasS
  apply decide_eq_true
  apply Nat.eq_of_testBit_eq
  intro i
  rw [Nat.testBit_and]
  by_cases hi : i < 16
  · cases h1 : a.testBit i
    · simp
    · rw [h i hi h1]; rfl
  · have : a.testBit i = false := Nat.testBit_lt_two_pow (Nat.lt_of_lt_of_le ha (by have := Nat.pow_le_pow_right (show 2 > 0 by omega) (show 16 ≤ i by omega); simpa using this))
    rw [this]; simp
theorem sub_no {a b k : Nat} (h1 : a.testBit k = true) (h2 : b.testBit k = false) : hasS b a = false := by
  unfold hasS
  apply decide_eq_false
  intro h
  have := congrArg (fun n => Nat.testBit n k) h
  simp [Nat.testBit_and, h1, h2] at this
def SaysI (n : Nat) (w : World) (e : Ending) (w' : World) : Prop := e = .returned (.int .i64 n) ∧ w = w'
theorem within_both (r h k : Nat) : hasS (h &&& k) r = (hasS h r && hasS k r) := by
  unfold hasS
  rw [← Bool.decide_and]
  apply decide_eq_decide.2
  constructor
  · intro e
    constructor
    · rw [← e]; apply Nat.eq_of_testBit_eq; intro i; simp only [Nat.testBit_and]; cases h.testBit i <;> simp
    · rw [← e]; apply Nat.eq_of_testBit_eq; intro i; simp only [Nat.testBit_and]; cases h.testBit i <;> cases k.testBit i <;> simp
  · rintro ⟨e1, e2⟩
    rw [Nat.and_assoc, e2, e1]
end Go.Proofs.Ytgdoampokcpagaa
namespace Go.Proofs.Ytgdoampokcpagaa
open Go.RowKit

theorem grown_of_belowT {w w' : World} (h : Below w.heap.size w w') : w.grownBy w' none := ⟨h.os, h.tape, h.output, h.size, fun i hi _ => h.block i hi⟩
theorem cond_cells {w : World} {b o k : Nat} {l : List CondM} {x : CondM} (hc : ∀ k x, l[k]? = some x → ∀ j v, (CondM.cells x)[j]? = some v → w.cell? ⟨b, o + (k * 4 + j), none⟩ = some v) (h : l[k]? = some x) :
    w.cell? ⟨b, o + k * 4, none⟩ = some (.int .i64 x.arg) ∧ w.cell? ⟨b, o + k * 4 + 1, none⟩ = some (.int .u8 x.op) ∧ w.cell? ⟨b, o + k * 4 + 2, none⟩ = some (.int .u64 x.mask) ∧ w.cell? ⟨b, o + k * 4 + 3, none⟩ = some (.int .u64 x.val) :=
  ⟨by have := hc k x h 0 _ rfl; simpa using this, by have := hc k x h 1 _ rfl; simpa [Nat.add_assoc] using this, by have := hc k x h 2 _ rfl; simpa [Nat.add_assoc] using this, by have := hc k x h 3 _ rfl; simpa [Nat.add_assoc] using this⟩
theorem grow_alloc {w w1 : World} {r : Option Nat} (h : w.grownBy w1 r) (o : Obj) : w.grownBy (w1.alloc o) r := grown_trans h (World.grownBy_alloc w1 o none) (by simp)
theorem grow_below {w w1 w2 : World} {r : Option Nat} (h : w.grownBy w1 r) (hb : Below w1.heap.size w1 w2) : w.grownBy w2 r := grown_trans h (grown_of_belowT hb) (by simp)
end Go.Proofs.Ytgdoampokcpagaa
namespace Go.Proofs.Ytgdoampokcpagaa
open Go.RowKit
/-- The first things of a slice. -/
theorem Rd.take {α : Type} {f : α → List Value} {w : World} {z n : Nat} {A : Option Addr} {l : List α} (h : Rd w z n A (l.flatMap f)) (hf : ∀ x, (f x).length = z) (hz : 0 < z) (hl : l.length = n) (k : Nat) (hk : k ≤ n) : Rd w z k A ((l.take k).flatMap f) := by
  refine ⟨by rw [flatz_len f z hf, List.length_take, hl, Nat.min_eq_left hk], ?_⟩
  rcases Nat.eq_zero_or_pos k with h0 | h0
  · exact .inl h0
  · right
    obtain ⟨b, o, e, hb, hc⟩ := h.pos (by omega)
    refine ⟨b, o, e, hb, fun j u hu => hc j u ?_⟩
    have hj : j = j / z * z + j % z := by rw [Nat.mul_comm]; exact (Nat.div_add_mod j z).symm
    have hm : j % z < z := Nat.mod_lt _ hz
    rw [hj, flatz f z hf hz _ _ _ hm] at hu ⊢
    obtain ⟨x, hx, hv⟩ := Option.bind_eq_some_iff.1 hu
    rw [List.getElem?_take] at hx
    split at hx
    · rw [hx]; exact hv
    · cases hx
theorem two_cells {α : Type} {f : α → List Value} {w : World} {b o k : Nat} {l : List α} {x : α} {v0 v1 : Value} (hc : ∀ k x, l[k]? = some x → ∀ j v, (f x)[j]? = some v → w.cell? ⟨b, o + (k * 2 + j), none⟩ = some v) (h : l[k]? = some x) (hf : f x = [v0, v1]) :
    w.cell? ⟨b, o + k * 2, none⟩ = some v0 ∧ w.cell? ⟨b, o + k * 2 + 1, none⟩ = some v1 :=
  ⟨by have := hc k x h 0 v0 (by rw [hf]; rfl); simpa using this, by have := hc k x h 1 v1 (by rw [hf]; rfl); simpa [Nat.add_assoc] using this⟩
theorem one_alloc (w : World) (o : Obj) : Below w.heap.size w (w.alloc o) := (Below.refl _ _).alloc (Nat.le_refl _) _
def IxPath (l : List (Bs × Nat)) (c : Bs) (w : World) (e : Ending) (w' : World) : Prop := (∃ v : Int, e = .returned (.int .i64 v) ∧ decide (0 ≤ v) = l.any fun y => decide (y.1 = c)) ∧ Below w.heap.size w w'
def IxPort (l : List (Nat × Nat)) (c : Nat) (w : World) (e : Ending) (w' : World) : Prop := (∃ v : Int, e = .returned (.int .i64 v) ∧ decide (0 ≤ v) = l.any fun y => decide (y.1 = c)) ∧ Below w.heap.size w w'
end Go.Proofs.Ytgdoampokcpagaa
namespace Go.Proofs.Ytgdoampokcpagaa
open Go.RowKit
open Classical in
theorem wordB_of {s : Bs} {b : Bool} (hb : b = true ↔ wordP ⟨s.toArray⟩) : wordB s = b := by
  unfold wordB
  cases b with
  | true => exact decide_eq_true (hb.1 rfl)
  | false => exact decide_eq_false (fun h => by have := hb.2 h; cases this)
theorem cell_grown {w w' : World} {b o tb : Nat} {v : Value} (h : w.cell? ⟨b, o, none⟩ = some v) (g : w.grownBy w' (some tb)) (hb : b ≠ tb) : w'.cell? ⟨b, o, none⟩ = some v := by
  have hl : b < w.heap.size := by
    rcases Nat.lt_or_ge b w.heap.size with h' | h'
    · exact h'
    · simp [World.cell?, Array.getElem?_eq_none h'] at h
  rw [← h]
  unfold World.cell?
  rw [g.block b hl (fun e => hb (Option.some.inj e))]
theorem rule_cells {w : World} {b o k : Nat} {l : List RuleV} {x : RuleV} (hc : ∀ k x, l[k]? = some x → ∀ j v, (RuleV.cells x)[j]? = some v → w.cell? ⟨b, o + (k * 3 + j), none⟩ = some v) (h : l[k]? = some x) :
    w.cell? ⟨b, o + k * 3, none⟩ = some (.int .u32 x.m.num) ∧ w.cell? ⟨b, o + k * 3 + 1, none⟩ = some (.int .u32 x.m.act) ∧ w.cell? ⟨b, o + k * 3 + 2, none⟩ = some (.slice x.A x.m.conds.length x.cap) :=
  ⟨by have := hc k x h 0 _ rfl; simpa using this, by have := hc k x h 1 _ rfl; simpa [Nat.add_assoc] using this, by have := hc k x h 2 _ rfl; simpa [Nat.add_assoc] using this⟩
theorem firstE_map {α β : Type} (g : α → β) (f : Nat → β → Nat) : ∀ (l : List α) (k : Nat), firstE f k (l.map g) = firstE (fun i x => f i (g x)) k l
  | [], _ => rfl
  | x :: t, k => by simp only [List.map_cons, firstE, firstE_map g f t]
end Go.Proofs.Ytgdoampokcpagaa

