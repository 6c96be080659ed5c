/- Actions: their kinds, errors, which of two counts: the program's and the document's. -/
import Derived.Test.YtnkffjdoillmaaaProg
import Derived.Test.YtnkffjdoillmaaaActM
import Derived.WalkKit
import Derived.WalkSpells
import Derived.Lib.Hide
import Derived.IntWalk
import Derived.Below
import Derived.Deep.QuietTactic
import Derived.BigQuiet
namespace Go.Proofs.Ytnkffjdoillmaaa.Rec
open Go.RowKit
theorem ret_bool {a b : Bool} (h : a = b) : Ending.returned (.bool a) = .returned (.bool b) := by rw [h]
theorem ret_int {k : IntKind} {a b : Int} (h : a = b) : Ending.returned (.int k a) = .returned (.int k b) := by rw [h]
theorem ret_nat {k : IntKind} {a b : Nat} (h : a = b) : Ending.returned (.int k (a : Int)) = .returned (.int k (b : Int)) := by rw [h]
set_option maxRecDepth 100000 in
theorem kind_any (a : Nat) (w : World) (h : a < 4294967296) : Calls Try.prog 81 #[.int .u32 a] w fun e w' => e = .returned (.int .u32 (kdOf (strN a) : Nat)) ∧ w = w' := by
  obtain ⟨q, hq⟩ : ∃ q, q = a / 65536 := ⟨_, rfl⟩
  have hb := andHigh a h
  rw [← hq] at hb
  have hs : strN a = if q = 5 then 2 else if q = 32764 then 1 else if q = 32767 then 0 else 3 := by rw [hq]; rfl
  obtain ⟨s, hsd⟩ : ∃ s, s = strN a := ⟨_, rfl⟩
  rw [← hsd] at hs ⊢
  clear hsd
  by_cases h5 : q = 5
  · subst h5
    simp at hs
    subst hs
    simp at hb
    have hq' := Lib.hid hq
    clear hq
    go_enter Try.func81, Try.ntmps81
    go_wp2
    go_ret
    exact ⟨rfl, rfl⟩
  by_cases h6 : q = 32764
  · subst h6
    simp at hs
    subst hs
    simp at hb
    have hq' := Lib.hid hq
    clear hq
    go_enter Try.func81, Try.ntmps81
    go_wp2
    go_ret
    exact ⟨rfl, rfl⟩
  by_cases h7 : q = 32767
  · subst h7
    simp at hs
    subst hs
    simp at hb
    have hq' := Lib.hid hq
    clear hq
    go_enter Try.func81, Try.ntmps81
    go_wp2
    go_ret
    exact ⟨rfl, rfl⟩
  · rw [if_neg h5, if_neg h6, if_neg h7] at hs
    subst hs
    obtain ⟨m, hm⟩ : ∃ m, m = q * 65536 := ⟨_, rfl⟩
    rw [← hm] at hb
    have b1 : ((m : Int) == 327680) = false := by simp; omega
    have b2 : ((m : Int) == 2147221504) = false := by simp; omega
    have b3 : ((m : Int) == 2147418112) = false := by simp; omega
    clear hq hm h5 h6 h7
    go_enter Try.func81, Try.ntmps81
    go_wp2
    go_ret
    exact ⟨rfl, rfl⟩
set_option maxRecDepth 100000 in
theorem strength_any (a : Nat) (w : World) (h : a < 4294967296) : Calls Try.prog 48 #[.int .u32 a] w fun e w' => e = .returned (.int .i64 (strN a : Nat)) ∧ w = w' := by
  obtain ⟨q, hq⟩ : ∃ q, q = a / 65536 := ⟨_, rfl⟩
  have hb : (a : Int) / 65536 = q := by omega
  have hs : strN a = if q = 5 then 2 else if q = 32764 then 1 else if q = 32767 then 0 else 3 := by rw [hq]; rfl
  obtain ⟨s, hsd⟩ : ∃ s, s = strN a := ⟨_, rfl⟩
  rw [← hsd] at hs ⊢
  clear hsd hq
  by_cases h5 : q = 5
  · subst h5
    simp at hs
    subst hs
    go_enter Try.func48, Try.ntmps48
    go_wp2
    go_ret
    exact ⟨rfl, rfl⟩
  by_cases h6 : q = 32764
  · subst h6
    simp at hs
    subst hs
    go_enter Try.func48, Try.ntmps48
    go_wp2
    go_ret
    exact ⟨rfl, rfl⟩
  by_cases h7 : q = 32767
  · subst h7
    simp at hs
    subst hs
    go_enter Try.func48, Try.ntmps48
    go_wp2
    go_ret
    exact ⟨rfl, rfl⟩
  · rw [if_neg h5, if_neg h6, if_neg h7] at hs
    subst hs
    have b1 : ((q : Int) == 5) = false := by simp; omega
    have b2 : ((q : Int) == 32764) = false := by simp; omega
    have b3 : ((q : Int) == 32767) = false := by simp; omega
    clear h5 h6 h7
    go_enter Try.func48, Try.ntmps48
    go_wp2
    go_ret
    exact ⟨rfl, rfl⟩
theorem rank_of (k : Nat) (h : k ≤ 3) : (kdOf k : Int) = if k = 3 then 2147483648 else rkOf k := by
  rcases (by omega : k = 0 ∨ k = 1 ∨ k = 2 ∨ k = 3) with rfl | rfl | rfl | rfl <;> rfl
set_option maxRecDepth 100000 in
theorem rank_any (a : Nat) (w : World) (h : a < 4294967296) : Calls Try.prog 69 #[.int .u32 a] w fun e w' => e = .returned (.int .i32 (rkOf (strN a))) ∧ w = w' := by
  have hc := kind_any a w h
  have hs := strN_le a
  obtain ⟨s, hsd⟩ : ∃ s, s = strN a := ⟨_, rfl⟩
  rw [← hsd] at hs hc ⊢
  clear hsd
  have Hc := Lib.hid hc
  clear hc
  rcases (by omega : s = 0 ∨ s = 1 ∨ s = 2 ∨ s = 3) with rfl | rfl | rfl | rfl
  all_goals
    go_enter Try.func69, Try.ntmps69
    go_wp2_with (go_at_call 81; refine Hc.out.mono ?_; rintro e w' ⟨rfl, rfl⟩; simp only [kdOf])
    go_ret
    first | exact ⟨rfl, rfl⟩ | exact ⟨ret_int (by simp [wrap32, rkOf]), rfl⟩
set_option maxRecDepth 100000 in
theorem stronger_any (a b : Nat) (w : World) (ha : a < 4294967296) (hb : b < 4294967296) : Calls Try.prog 50 #[.int .u32 a, .int .u32 b] w fun e w' => e = .returned (.int .u32 (stg a b : Nat)) ∧ w = w' := by
  have ca := rank_any a w ha
  have cb := rank_any b w hb
  have hlt := rk_lt (strN_le a) (strN_le b)
  have hst : stg a b = if strN a < strN b then b else a := rfl
  obtain ⟨x, hx⟩ : ∃ x, x = rkOf (strN a) := ⟨_, rfl⟩
  obtain ⟨y, hy⟩ : ∃ x, x = rkOf (strN b) := ⟨_, rfl⟩
  rw [← hx, ← hy] at hlt
  rw [← hx] at ca
  rw [← hy] at cb
  clear hx hy
  have Ca := Lib.hid ca
  have Cb := Lib.hid cb
  clear ca cb
  by_cases h : strN a < strN b
  · rw [if_pos h] at hst
    rw [hst]
    have hi := hlt.2 h
    clear hst hlt h
    go_enter Try.func50, Try.ntmps50
    go_wp2_with fail
    refine Cb.out.mono ?_
    rintro e w' ⟨rfl, rfl⟩
    go_wp2_with fail
    refine Ca.out.mono ?_
    rintro e w' ⟨rfl, rfl⟩
    go_wp2_with fail
    go_ret
    exact ⟨rfl, rfl⟩
  · rw [if_neg h] at hst
    rw [hst]
    have hi : ¬ y < x := fun e => h (hlt.1 e)
    clear hst hlt h
    go_enter Try.func50, Try.ntmps50
    go_wp2_with fail
    refine Cb.out.mono ?_
    rintro e w' ⟨rfl, rfl⟩
    go_wp2_with fail
    refine Ca.out.mono ?_
    rintro e w' ⟨rfl, rfl⟩
    go_wp2_with fail
    go_ret
    exact ⟨rfl, rfl⟩
set_option maxRecDepth 100000 in
theorem refStronger_any (a b : Nat) (w : World) (ha : a < 4294967296) (hb : b < 4294967296) : Calls Try.prog 24 #[.int .u32 a, .int .u32 b] w fun e w' => e = .returned (.int .u32 (stg a b : Nat)) ∧ w = w' := by
  have ca := strength_any a w ha
  have cb := strength_any b w hb
  have hst : stg a b = if strN a < strN b then b else a := rfl
  obtain ⟨x, hx⟩ : ∃ x, x = strN a := ⟨_, rfl⟩
  obtain ⟨y, hy⟩ : ∃ x, x = strN b := ⟨_, rfl⟩
  rw [← hx, ← hy] at hst
  rw [← hx] at ca
  rw [← hy] at cb
  clear hx hy
  have Ca := Lib.hid ca
  have Cb := Lib.hid cb
  clear ca cb
  by_cases h : x < y
  · rw [if_pos h] at hst
    rw [hst]
    clear hst
    go_enter Try.func24, Try.ntmps24
    go_wp2_with fail
    refine Cb.out.mono ?_
    rintro e w' ⟨rfl, rfl⟩
    go_wp2_with fail
    refine Ca.out.mono ?_
    rintro e w' ⟨rfl, rfl⟩
    go_wp2_with fail
    go_ret
    exact ⟨rfl, rfl⟩
  · rw [if_neg h] at hst
    rw [hst]
    clear hst
    go_enter Try.func24, Try.ntmps24
    go_wp2_with fail
    refine Cb.out.mono ?_
    rintro e w' ⟨rfl, rfl⟩
    go_wp2_with fail
    refine Ca.out.mono ?_
    rintro e w' ⟨rfl, rfl⟩
    go_wp2_with fail
    go_ret
    exact ⟨rfl, rfl⟩
theorem clamp_low {e : Int} (h : e ≤ 0) : clampN e = 0 := by unfold clampN; omega
theorem clamp_high {e : Int} (h : 4095 ≤ e) : clampN e = 4095 := by unfold clampN; omega
theorem clamp_mid {n : Nat} (h : n ≤ 4095) : clampN n = n := by unfold clampN; omega
def Yes (w : World) (e : Ending) (w' : World) : Prop := e = .returned (.bool true) ∧ Below w.heap.size w w'
end Go.Proofs.Ytnkffjdoillmaaa.Rec

