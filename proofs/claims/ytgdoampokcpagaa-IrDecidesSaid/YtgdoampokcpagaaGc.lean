/- Actions as plain numbers: how strong, of which kind, which of two or many counts. -/
import Derived.Laws.BitsAllLaws
import Derived.Lib.BitFns
import Derived.Test.YtgdoampokcpagaaProg
import Derived.WalkKit
import Derived.WalkSpells
import Derived.Lib.Hide
import Derived.IntWalk
import Derived.Below
import Derived.Deep.QuietTactic
import Derived.BigQuiet
namespace Go.Proofs.Ytgdoampokcpagaa.Rec
/-- How strong: 3 kill, 2 errno, 1 log, 0 allow. -/
def strN (a : Nat) : Nat := if a / 65536 = 5 then 2 else if a / 65536 = 32764 then 1 else if a / 65536 = 32767 then 0 else 3
theorem strN_le (a : Nat) : strN a ≤ 3 := by unfold strN; split <;> (try split) <;> (try split) <;> omega
def kdOf (s : Nat) : Nat := if s = 0 then 2147418112 else if s = 1 then 2147221504 else if s = 2 then 327680 else 2147483648
def rkOf (s : Nat) : Int := if s = 0 then 2147418112 else if s = 1 then 2147221504 else if s = 2 then 327680 else -2147483648
def numN (a : Nat) : Nat := if strN a = 2 then a % 65536 else 0
def stg (a b : Nat) : Nat := if strN a < strN b then b else a
def clampN (e : Int) : Nat := (min (max e 0) 4095).toNat
theorem rk_lt {s t : Nat} (hs : s ≤ 3) (ht : t ≤ 3) : rkOf t < rkOf s ↔ s < t := by
  rcases (by omega : s = 0 ∨ s = 1 ∨ s = 2 ∨ s = 3) with rfl | rfl | rfl | rfl <;> rcases (by omega : t = 0 ∨ t = 1 ∨ t = 2 ∨ t = 3) with rfl | rfl | rfl | rfl <;> decide
theorem kd_inj {s t : Nat} (hs : s ≤ 3) (ht : t ≤ 3) (h : kdOf s = kdOf t) : s = t := by
  revert h
  rcases (by omega : s = 0 ∨ s = 1 ∨ s = 2 ∨ s = 3) with rfl | rfl | rfl | rfl <;> rcases (by omega : t = 0 ∨ t = 1 ∨ t = 2 ∨ t = 3) with rfl | rfl | rfl | rfl <;> decide
theorem kd_lt (s : Nat) : kdOf s < 4294967296 := by unfold kdOf; split <;> (try split) <;> (try split) <;> omega
theorem high (a : Nat) (h : a < 4294967296) : a &&& 4294901760 = a / 65536 * 65536 := by
  have h1 := Nat.and_div_two_pow (a := a) (b := 4294901760) (n := 16)
  have h2 := Nat.and_mod_two_pow (a := a) (b := 4294901760) (n := 16)
  have e1 := Nat.and_two_pow_sub_one_eq_mod (a / 65536) 16
  simp only [Nat.reducePow, Nat.reduceDiv, Nat.reduceMod, Nat.reduceSub, Nat.and_zero] at h1 h2 e1
  rw [e1] at h1
  omega
theorem andHigh (a : Nat) (h : a < 4294967296) : bits .and .u32 (a : Int) 4294901760 = ((a / 65536 * 65536 : Nat) : Int) := by
  rw [← high a h]; exact u32_and_nat a 4294901760 h (by omega)
theorem andLow (a : Nat) (h : a < 4294967296) : bits .and .u32 (a : Int) 65535 = ((a % 65536 : Nat) : Int) := by
  have e := u32_and_nat a 65535 h (by omega)
  rw [Nat.and_two_pow_sub_one_eq_mod a 16] at e
  exact e
theorem orErrno (k : Nat) (h : k < 65536) : bits .or .u32 327680 (k : Int) = ((327680 + k : Nat) : Int) := by
  have e := u32_or_nat 327680 k (by omega) (by omega)
  rw [show (327680 ||| k : Nat) = 327680 + k from (Nat.two_pow_add_eq_or_of_lt (i := 16) (b := k) (by omega) 5).symm] at e
  exact e
theorem clamp_le (e : Int) : clampN e ≤ 4095 := by unfold clampN; omega
theorem clamp_eq (e : Int) : min (max e 0) 4095 = (clampN e : Int) := by unfold clampN; omega
theorem strN_errno (k : Nat) (h : k < 65536) : strN (327680 + k) = 2 := by
  have : (327680 + k) / 65536 = 5 := by omega
  unfold strN; rw [if_pos this]
theorem stg_lt {a b : Nat} (ha : a < 4294967296) (hb : b < 4294967296) : stg a b < 4294967296 := by unfold stg; split <;> assumption
theorem stg_str (a b : Nat) : strN (stg a b) = max (strN a) (strN b) := by unfold stg; split <;> omega
theorem stg_assoc (a b c : Nat) : stg (stg a b) c = stg a (stg b c) := by
  unfold stg
  by_cases h1 : strN a < strN b <;> by_cases h2 : strN b < strN c <;> by_cases h3 : strN a < strN c <;> simp [h1, h2, h3] <;> omega
/-- Many put together. -/
def foldS : List Nat → Nat
  | [] => 0
  | a :: l => l.foldl stg a
theorem foldl_stg (l : List Nat) (a b : Nat) : l.foldl stg (stg a b) = stg a (l.foldl stg b) := by
  induction l generalizing b with
  | nil => rfl
  | cons c l ih => rw [List.foldl_cons, List.foldl_cons, stg_assoc, ih]
theorem foldS_snoc (l : List Nat) (x : Nat) (h : l ≠ []) : foldS (l ++ [x]) = stg (foldS l) x := by
  cases l with
  | nil => exact absurd rfl h
  | cons a l => simp [foldS]
theorem foldS_append (l m : List Nat) (h : l ≠ []) (hm : m ≠ []) : foldS (l ++ m) = stg (foldS l) (foldS m) := by
  cases l with
  | nil => exact absurd rfl h
  | cons a l =>
    cases m with
    | nil => exact absurd rfl hm
    | cons b m => simp only [foldS, List.cons_append, List.foldl_append, List.foldl_cons, foldl_stg]
/-- What counts is the first of the strongest. -/
theorem foldS_first : ∀ (l : List Nat), l ≠ [] → ∃ j : Nat, l[j]? = some (foldS l) ∧ (∀ (i : Nat) (x : Nat), i < j → l[i]? = some x → strN x < strN (foldS l)) ∧ ∀ x ∈ l, strN x ≤ strN (foldS l)
  | [], h => absurd rfl h
  | [a], _ => ⟨0, rfl, fun i x hi => absurd hi (by omega), fun x hx => by simp at hx; subst hx; simp [foldS]⟩
  | a :: b :: l, _ => by
    obtain ⟨j, h1, h2, h3⟩ := foldS_first (b :: l) (by simp)
    have e : foldS (a :: b :: l) = stg a (foldS (b :: l)) := by
      have := foldS_append [a] (b :: l) (by simp) (by simp)
      simpa [foldS] using this
    rw [e]
    by_cases h : strN a < strN (foldS (b :: l))
    · have e2 : stg a (foldS (b :: l)) = foldS (b :: l) := by unfold stg; rw [if_pos h]
      rw [e2]
      refine ⟨j + 1, by simpa using h1, fun i x hi hx => ?_, fun x hx => ?_⟩
      · cases i with
        | zero => simp at hx; subst hx; exact h
        | succ i => exact h2 i x (by omega) (by simpa using hx)
      · rcases List.mem_cons.1 hx with rfl | hx
        · omega
        · exact h3 x hx
    · have e2 : stg a (foldS (b :: l)) = a := by unfold stg; rw [if_neg h]
      rw [e2]
      refine ⟨0, rfl, fun i x hi => absurd hi (by omega), fun x hx => ?_⟩
      rcases List.mem_cons.1 hx with rfl | hx
      · omega
      · have := h3 x hx; omega
theorem foldS_lt {l : List Nat} (h : ∀ x ∈ l, x < 4294967296) (hn : l ≠ []) : foldS l < 4294967296 := by
  obtain ⟨j, h1, _⟩ := foldS_first l hn
  exact h _ (List.mem_of_getElem? h1)
theorem stg_all {l : List Nat} (hn : l ≠ []) {x : Nat} (hx : x ∈ l) : stg (foldS l) x = foldS l := by
  obtain ⟨j, _, _, h3⟩ := foldS_first l hn
  have := h3 x hx
  unfold stg; rw [if_neg (by omega)]
end Go.Proofs.Ytgdoampokcpagaa.Rec
namespace Go.Proofs.Ytgdoampokcpagaa.Rec
open Go.RowKit
theorem ret_bool {a b : Bool} (h : a = b) : Ending.returned (.bool a) = .returned (.bool b) := by rw [h]
theorem ret_int {k : IntKind} {a b : Int} (h : a = b) : Ending.returned (.int k a) = .returned (.int k b) := by rw [h]
theorem ret_nat {k : IntKind} {a b : Nat} (h : a = b) : Ending.returned (.int k (a : Int)) = .returned (.int k (b : Int)) := by rw [h]
set_option maxRecDepth 100000 in
theorem kind_any (a : Nat) (w : World) (h : a < 4294967296) : Calls Try.prog 34 #[.int .u32 a] w fun e w' => e = .returned (.int .u32 (kdOf (strN a) : Nat)) ∧ w = w' := by
  obtain ⟨q, hq⟩ : ∃ q, q = a / 65536 := ⟨_, rfl⟩
  have hb := andHigh a h
  rw [← hq] at hb
  have hs : strN a = if q = 5 then 2 else if q = 32764 then 1 else if q = 32767 then 0 else 3 := by rw [hq]; rfl
  obtain ⟨s, hsd⟩ : ∃ s, s = strN a := ⟨_, rfl⟩
  rw [← hsd] at hs ⊢
  clear hsd
  by_cases h5 : q = 5
  · subst h5
    simp at hs
    subst hs
    simp at hb
    have hq' := Lib.hid hq
    clear hq
    go_enter Try.func34, Try.ntmps34
    go_wp2
    go_ret
    exact ⟨rfl, rfl⟩
  by_cases h6 : q = 32764
  · subst h6
    simp at hs
    subst hs
    simp at hb
    have hq' := Lib.hid hq
    clear hq
    go_enter Try.func34, Try.ntmps34
    go_wp2
    go_ret
    exact ⟨rfl, rfl⟩
  by_cases h7 : q = 32767
  · subst h7
    simp at hs
    subst hs
    simp at hb
    have hq' := Lib.hid hq
    clear hq
    go_enter Try.func34, Try.ntmps34
    go_wp2
    go_ret
    exact ⟨rfl, rfl⟩
  · rw [if_neg h5, if_neg h6, if_neg h7] at hs
    subst hs
    obtain ⟨m, hm⟩ : ∃ m, m = q * 65536 := ⟨_, rfl⟩
    rw [← hm] at hb
    have b1 : ((m : Int) == 327680) = false := by simp; omega
    have b2 : ((m : Int) == 2147221504) = false := by simp; omega
    have b3 : ((m : Int) == 2147418112) = false := by simp; omega
    clear hq hm h5 h6 h7
    go_enter Try.func34, Try.ntmps34
    go_wp2
    go_ret
    exact ⟨rfl, rfl⟩
set_option maxRecDepth 100000 in
theorem strength_any (a : Nat) (w : World) (h : a < 4294967296) : Calls Try.prog 13 #[.int .u32 a] w fun e w' => e = .returned (.int .i64 (strN a : Nat)) ∧ w = w' := by
  obtain ⟨q, hq⟩ : ∃ q, q = a / 65536 := ⟨_, rfl⟩
  have hb : (a : Int) / 65536 = q := by omega
  have hs : strN a = if q = 5 then 2 else if q = 32764 then 1 else if q = 32767 then 0 else 3 := by rw [hq]; rfl
  obtain ⟨s, hsd⟩ : ∃ s, s = strN a := ⟨_, rfl⟩
  rw [← hsd] at hs ⊢
  clear hsd hq
  by_cases h5 : q = 5
  · subst h5
    simp at hs
    subst hs
    go_enter Try.func13, Try.ntmps13
    go_wp2
    go_ret
    exact ⟨rfl, rfl⟩
  by_cases h6 : q = 32764
  · subst h6
    simp at hs
    subst hs
    go_enter Try.func13, Try.ntmps13
    go_wp2
    go_ret
    exact ⟨rfl, rfl⟩
  by_cases h7 : q = 32767
  · subst h7
    simp at hs
    subst hs
    go_enter Try.func13, Try.ntmps13
    go_wp2
    go_ret
    exact ⟨rfl, rfl⟩
  · rw [if_neg h5, if_neg h6, if_neg h7] at hs
    subst hs
    have b1 : ((q : Int) == 5) = false := by simp; omega
    have b2 : ((q : Int) == 32764) = false := by simp; omega
    have b3 : ((q : Int) == 32767) = false := by simp; omega
    clear h5 h6 h7
    go_enter Try.func13, Try.ntmps13
    go_wp2
    go_ret
    exact ⟨rfl, rfl⟩
theorem rank_of (k : Nat) (h : k ≤ 3) : (kdOf k : Int) = if k = 3 then 2147483648 else rkOf k := by
  rcases (by omega : k = 0 ∨ k = 1 ∨ k = 2 ∨ k = 3) with rfl | rfl | rfl | rfl <;> rfl
set_option maxRecDepth 100000 in
theorem rank_any (a : Nat) (w : World) (h : a < 4294967296) : Calls Try.prog 44 #[.int .u32 a] w fun e w' => e = .returned (.int .i32 (rkOf (strN a))) ∧ w = w' := by
  have hc := kind_any a w h
  have hs := strN_le a
  obtain ⟨s, hsd⟩ : ∃ s, s = strN a := ⟨_, rfl⟩
  rw [← hsd] at hs hc ⊢
  clear hsd
  have Hc := Lib.hid hc
  clear hc
  rcases (by omega : s = 0 ∨ s = 1 ∨ s = 2 ∨ s = 3) with rfl | rfl | rfl | rfl
  all_goals
    go_enter Try.func44, Try.ntmps44
    go_wp2_with (go_at_call 34; refine Hc.out.mono ?_; rintro e w' ⟨rfl, rfl⟩; simp only [kdOf])
    go_ret
    first | exact ⟨rfl, rfl⟩ | exact ⟨ret_int (by simp [wrap32, rkOf]), rfl⟩
set_option maxRecDepth 100000 in
theorem stronger_any (a b : Nat) (w : World) (ha : a < 4294967296) (hb : b < 4294967296) : Calls Try.prog 35 #[.int .u32 a, .int .u32 b] w fun e w' => e = .returned (.int .u32 (stg a b : Nat)) ∧ w = w' := by
  have ca := rank_any a w ha
  have cb := rank_any b w hb
  have hlt := rk_lt (strN_le a) (strN_le b)
  have hst : stg a b = if strN a < strN b then b else a := rfl
  obtain ⟨x, hx⟩ : ∃ x, x = rkOf (strN a) := ⟨_, rfl⟩
  obtain ⟨y, hy⟩ : ∃ x, x = rkOf (strN b) := ⟨_, rfl⟩
  rw [← hx, ← hy] at hlt
  rw [← hx] at ca
  rw [← hy] at cb
  clear hx hy
  have Ca := Lib.hid ca
  have Cb := Lib.hid cb
  clear ca cb
  by_cases h : strN a < strN b
  · rw [if_pos h] at hst
    rw [hst]
    have hi := hlt.2 h
    clear hst hlt h
    go_enter Try.func35, Try.ntmps35
    go_wp2_with fail
    refine Cb.out.mono ?_
    rintro e w' ⟨rfl, rfl⟩
    go_wp2_with fail
    refine Ca.out.mono ?_
    rintro e w' ⟨rfl, rfl⟩
    go_wp2_with fail
    go_ret
    exact ⟨rfl, rfl⟩
  · rw [if_neg h] at hst
    rw [hst]
    have hi : ¬ y < x := fun e => h (hlt.1 e)
    clear hst hlt h
    go_enter Try.func35, Try.ntmps35
    go_wp2_with fail
    refine Cb.out.mono ?_
    rintro e w' ⟨rfl, rfl⟩
    go_wp2_with fail
    refine Ca.out.mono ?_
    rintro e w' ⟨rfl, rfl⟩
    go_wp2_with fail
    go_ret
    exact ⟨rfl, rfl⟩
theorem clamp_low {e : Int} (h : e ≤ 0) : clampN e = 0 := by unfold clampN; omega
theorem clamp_high {e : Int} (h : 4095 ≤ e) : clampN e = 4095 := by unfold clampN; omega
theorem clamp_mid {n : Nat} (h : n ≤ 4095) : clampN n = n := by unfold clampN; omega
set_option maxRecDepth 100000 in
theorem fail_any (e : Int) (w : World) : Calls Try.prog 30 #[.int .i64 e] w fun r w' => r = .returned (.int .u32 (327680 + clampN e : Nat)) ∧ w = w' := by
  by_cases h0 : e ≤ 0
  · rw [clamp_low h0]
    have ho : bits .or .u32 327680 0 = 327680 := by rfl
    go_enter Try.func30, Try.ntmps30
    go_wp2_with fail
    all_goals (go_ret; first | exact ⟨rfl, rfl⟩ | (obtain rfl : e = 0 := (by omega); exact ⟨rfl, rfl⟩))
  by_cases h1 : 4095 ≤ e
  · rw [clamp_high h1]
    go_enter Try.func30, Try.ntmps30
    go_wp2_with fail
    all_goals (go_ret; first | exact ⟨rfl, rfl⟩ | (obtain rfl : e = 4095 := (by omega); exact ⟨rfl, rfl⟩))
  obtain ⟨n, rfl⟩ := Int.eq_ofNat_of_zero_le (show 0 ≤ e by omega)
  have hn : n ≤ 4095 := by omega
  rw [clamp_mid hn]
  have ho := orErrno n (by omega)
  clear h0 h1
  go_enter Try.func30, Try.ntmps30
  go_wp2_with fail
  all_goals (go_ret; first | exact ⟨rfl, rfl⟩ | (exfalso; omega))
def Yes (w : World) (e : Ending) (w' : World) : Prop := e = .returned (.bool true) ∧ Below w.heap.size w w'
end Go.Proofs.Ytgdoampokcpagaa.Rec

