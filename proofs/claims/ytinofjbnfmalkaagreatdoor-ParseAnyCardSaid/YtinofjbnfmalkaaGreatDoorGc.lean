/- Actions as plain numbers: how strong, of which kind, which of two or many counts. -/
import Derived.Laws.BitsAllLaws
import Derived.Lib.BitFns
import Derived.Test.YtinofjbnfmalkaaGreatDoorProg
import Derived.WalkKit
import Derived.WalkSpells
import Derived.Lib.Hide
import Derived.IntWalk
import Derived.Below
import Derived.Deep.QuietTactic
import Derived.BigQuiet
namespace Go.Proofs.YtinofjbnfmalkaaGreatDoor.Rec
def strN (a : Nat) : Nat := if a / 65536 = 5 then 2 else if a / 65536 = 32764 then 1 else if a / 65536 = 32767 then 0 else 3
theorem strN_le (a : Nat) : strN a ≤ 3 := by unfold strN; split <;> (try split) <;> (try split) <;> omega
def kdOf (s : Nat) : Nat := if s = 0 then 2147418112 else if s = 1 then 2147221504 else if s = 2 then 327680 else 2147483648
def numN (a : Nat) : Nat := if strN a = 2 then a % 65536 else 0
def clampN (e : Int) : Nat := (min (max e 0) 4095).toNat
theorem high (a : Nat) (h : a < 4294967296) : a &&& 4294901760 = a / 65536 * 65536 := by
  have h1 := Nat.and_div_two_pow (a := a) (b := 4294901760) (n := 16)
  have h2 := Nat.and_mod_two_pow (a := a) (b := 4294901760) (n := 16)
  have e1 := Nat.and_two_pow_sub_one_eq_mod (a / 65536) 16
  simp only [Nat.reducePow, Nat.reduceDiv, Nat.reduceMod, Nat.reduceSub, Nat.and_zero] at h1 h2 e1
  rw [e1] at h1
  omega
theorem andHigh (a : Nat) (h : a < 4294967296) : bits .and .u32 (a : Int) 4294901760 = ((a / 65536 * 65536 : Nat) : Int) := by
  rw [← high a h]; exact u32_and_nat a 4294901760 h (by omega)
theorem andLow (a : Nat) (h : a < 4294967296) : bits .and .u32 (a : Int) 65535 = ((a % 65536 : Nat) : Int) := by
  have e := u32_and_nat a 65535 h (by omega)
  rw [Nat.and_two_pow_sub_one_eq_mod a 16] at e
  exact e
theorem orErrno (k : Nat) (h : k < 65536) : bits .or .u32 327680 (k : Int) = ((327680 + k : Nat) : Int) := by
  have e := u32_or_nat 327680 k (by omega) (by omega)
  rw [show (327680 ||| k : Nat) = 327680 + k from (Nat.two_pow_add_eq_or_of_lt (i := 16) (b := k) (by omega) 5).symm] at e
  exact e
theorem clamp_le (e : Int) : clampN e ≤ 4095 := by unfold clampN; omega
theorem strN_errno (k : Nat) (h : k < 65536) : strN (327680 + k) = 2 := by
  have : (327680 + k) / 65536 = 5 := by omega
  unfold strN; rw [if_pos this]
end Go.Proofs.YtinofjbnfmalkaaGreatDoor.Rec
namespace Go.Proofs.YtinofjbnfmalkaaGreatDoor.Rec
open Go.RowKit
theorem ret_bool {a b : Bool} (h : a = b) : Ending.returned (.bool a) = .returned (.bool b) := by rw [h]
theorem ret_int {k : IntKind} {a b : Int} (h : a = b) : Ending.returned (.int k a) = .returned (.int k b) := by rw [h]
set_option maxRecDepth 100000 in
theorem kind_any (a : Nat) (w : World) (h : a < 4294967296) : Calls Tryz.prog 64 #[.int .u32 a] w fun e w' => e = .returned (.int .u32 (kdOf (strN a) : Nat)) ∧ w = w' := by
  obtain ⟨q, hq⟩ : ∃ q, q = a / 65536 := ⟨_, rfl⟩
  have hb := andHigh a h
  rw [← hq] at hb
  have hs : strN a = if q = 5 then 2 else if q = 32764 then 1 else if q = 32767 then 0 else 3 := by rw [hq]; rfl
  obtain ⟨s, hsd⟩ : ∃ s, s = strN a := ⟨_, rfl⟩
  rw [← hsd] at hs ⊢
  clear hsd
  by_cases h5 : q = 5
  · subst h5
    simp at hs
    subst hs
    simp at hb
    have hq' := Lib.hid hq
    clear hq
    go_enter Tryz.func64, Tryz.ntmps64
    go_wp2
    go_ret
    exact ⟨rfl, rfl⟩
  by_cases h6 : q = 32764
  · subst h6
    simp at hs
    subst hs
    simp at hb
    have hq' := Lib.hid hq
    clear hq
    go_enter Tryz.func64, Tryz.ntmps64
    go_wp2
    go_ret
    exact ⟨rfl, rfl⟩
  by_cases h7 : q = 32767
  · subst h7
    simp at hs
    subst hs
    simp at hb
    have hq' := Lib.hid hq
    clear hq
    go_enter Tryz.func64, Tryz.ntmps64
    go_wp2
    go_ret
    exact ⟨rfl, rfl⟩
  · rw [if_neg h5, if_neg h6, if_neg h7] at hs
    subst hs
    obtain ⟨m, hm⟩ : ∃ m, m = q * 65536 := ⟨_, rfl⟩
    rw [← hm] at hb
    have b1 : ((m : Int) == 327680) = false := by simp; omega
    have b2 : ((m : Int) == 2147221504) = false := by simp; omega
    have b3 : ((m : Int) == 2147418112) = false := by simp; omega
    clear hq hm h5 h6 h7
    go_enter Tryz.func64, Tryz.ntmps64
    go_wp2
    go_ret
    exact ⟨rfl, rfl⟩
set_option maxRecDepth 100000 in
theorem number_any (a : Nat) (w : World) (h : a < 4294967296) : Calls Tryz.prog 55 #[.int .u32 a] w fun e w' => e = .returned (.int .i64 (numN a : Nat)) ∧ w = w' := by
  have hb := andLow a h
  have hc := kind_any a w h
  have hs := strN_le a
  have hn : numN a = if strN a = 2 then a % 65536 else 0 := rfl
  obtain ⟨s, hsd⟩ : ∃ s, s = strN a := ⟨_, rfl⟩
  obtain ⟨m, hm⟩ : ∃ m, m = a % 65536 := ⟨_, rfl⟩
  have hml : m < 65536 := by omega
  rw [← hsd] at hs hc
  rw [hn, ← hsd, ← hm]
  rw [← hm] at hb
  clear hsd hn hm
  have Hc := Lib.hid hc
  clear hc
  rcases (by omega : s = 0 ∨ s = 1 ∨ s = 2 ∨ s = 3) with rfl | rfl | rfl | rfl
  all_goals
    go_enter Tryz.func55, Tryz.ntmps55
    go_wp2_with (go_at_call 64; refine Hc.out.mono ?_; rintro e w' ⟨rfl, rfl⟩; simp only [kdOf])
    go_ret
    exact ⟨rfl, rfl⟩
theorem clamp_low {e : Int} (h : e ≤ 0) : clampN e = 0 := by unfold clampN; omega
theorem clamp_high {e : Int} (h : 4095 ≤ e) : clampN e = 4095 := by unfold clampN; omega
theorem clamp_mid {n : Nat} (h : n ≤ 4095) : clampN n = n := by unfold clampN; omega
set_option maxRecDepth 100000 in
theorem fail_any (e : Int) (w : World) : Calls Tryz.prog 51 #[.int .i64 e] w fun r w' => r = .returned (.int .u32 (327680 + clampN e : Nat)) ∧ w = w' := by
  by_cases h0 : e ≤ 0
  · rw [clamp_low h0]
    have ho : bits .or .u32 327680 0 = 327680 := by rfl
    go_enter Tryz.func51, Tryz.ntmps51
    go_wp2_with fail
    all_goals (go_ret; first | exact ⟨rfl, rfl⟩ | (obtain rfl : e = 0 := (by omega); exact ⟨rfl, rfl⟩))
  by_cases h1 : 4095 ≤ e
  · rw [clamp_high h1]
    go_enter Tryz.func51, Tryz.ntmps51
    go_wp2_with fail
    all_goals (go_ret; first | exact ⟨rfl, rfl⟩ | (obtain rfl : e = 4095 := (by omega); exact ⟨rfl, rfl⟩))
  obtain ⟨n, rfl⟩ := Int.eq_ofNat_of_zero_le (show 0 ≤ e by omega)
  have hn : n ≤ 4095 := by omega
  rw [clamp_mid hn]
  have ho := orErrno n (by omega)
  clear h0 h1
  go_enter Tryz.func51, Tryz.ntmps51
  go_wp2_with fail
  all_goals (go_ret; first | exact ⟨rfl, rfl⟩ | (exfalso; omega))
end Go.Proofs.YtinofjbnfmalkaaGreatDoor.Rec

