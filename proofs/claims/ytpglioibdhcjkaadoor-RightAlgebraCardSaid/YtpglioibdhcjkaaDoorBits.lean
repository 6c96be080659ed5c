/- The small ones: a bit, has, valid, fits, powers; each leaves the world as it was. -/
import Derived.Test.YtpglioibdhcjkaaDoorProg
import Derived.WalkKit
import Derived.WalkSpells
import Derived.Lib.Hide
import Derived.Laws.BitsAllLaws
import Derived.Laws.ShiftsVarLaws
import Derived.IntWalk
import Derived.Lib.BitFns
import Derived.Deep.QuietTactic
import Derived.BigQuiet
namespace Go.Proofs.YtpglioibdhcjkaaDoor
open Go.RowKit

def hasB (a b : Nat) : Bool := decide (a &&& b = b)
theorem ret_bool {a b : Bool} (h : a = b) : Ending.returned (.bool a) = .returned (.bool b) := by rw [h]
theorem ret_int {k : IntKind} {a b : Int} (h : a = b) : Ending.returned (.int k a) = .returned (.int k b) := by rw [h]
theorem pow_lt (i : Nat) (h : i < 16) : (2 : Nat) ^ i < 65536 := Nat.pow_lt_pow_right (by omega) h

theorem bit_any (i : Nat) (w : World) (h : i < 16) : Calls Tryd.prog 24 #[.int .i64 i] w fun e w' => e = .returned (.int .u16 ((2 ^ i : Nat) : Int)) ∧ w = w' := by
  go_enter Tryd.func24, Tryd.ntmps24
  go_wp2
  go_ret
  refine ⟨ret_int ?_, rfl⟩
  have hp := pow_lt i h
  have e0 : (0 : Int) ≤ ((2 ^ i : Nat) : Int) := Int.natCast_nonneg _
  have e1 : ((2 ^ i : Nat) : Int) < 65536 := Int.ofNat_lt.2 hp
  have e : ((2 : Int) ^ i) = ((2 ^ i : Nat) : Int) := by rw [Int.natCast_pow]; rfl
  rw [IntKind.wrap_u16, e]
  exact Int.emod_eq_of_lt e0 e1
theorem has_any (a b : Nat) (w : World) (ha : a < 65536) (hb : b < 65536) : Calls Tryd.prog 20 #[.int .u16 a, .int .u16 b] w fun e w' => e = .returned (.bool (hasB a b)) ∧ w = w' := by
  go_enter Tryd.func20, Tryd.ntmps20
  go_wp2
  go_ret
  refine ⟨ret_bool ?_, rfl⟩
  rw [u16_and_nat a b ha hb, Bool.eq_iff_iff]; simp [hasB]; omega
theorem valid_any (a : Nat) (w : World) (ha : a < 65536) : Calls Tryd.prog 19 #[.int .u16 a] w fun e w' => e = .returned (.bool (decide (a &&& 14336 = 0))) ∧ w = w' := by
  go_enter Tryd.func19, Tryd.ntmps19
  go_wp2
  go_ret
  refine ⟨ret_bool ?_, rfl⟩
  have e := u16_andNot_nat a 51199 ha (by omega)
  rw [show ((51199 : Nat) : Int) = 51199 from rfl] at e
  rw [e, Bool.eq_iff_iff]; simp
theorem fits_any (a : Nat) (d : Bool) (w : World) (ha : a < 65536) : Calls Tryd.prog 21 #[.int .u16 a, .bool d] w fun e w' => e = .returned (.int .u16 ((a &&& (if d then 2047 else 1031) : Nat) : Int)) ∧ w = w' := by
  cases d
  · go_enter Tryd.func21, Tryd.ntmps21
    go_wp2
    go_ret
    exact ⟨ret_int (u16_and_nat a 1031 ha (by omega)), rfl⟩
  · go_enter Tryd.func21, Tryd.ntmps21
    go_wp2
    go_ret
    exact ⟨ret_int (u16_and_nat a 2047 ha (by omega)), rfl⟩

/-- How many bits. -/
def cnt (n : Nat) : Nat := ((List.range 16).filter n.testBit).length
theorem pop_eq : ∀ n : Fin 256, Lib.onesCount n.val = ((List.range 8).filter n.val.testBit).length := by decide +kernel
theorem cnt_eq (a : Nat) (h : a < 65536) : cnt a = Lib.onesCount (a / 256) + Lib.onesCount (a % 256) := by
  have e1 := pop_eq ⟨a / 256, by omega⟩
  have e2 := pop_eq ⟨a % 256, by omega⟩
  simp only at e1 e2
  have er : List.range 16 = List.range 8 ++ (List.range 8).map (· + 8) := by decide
  have e3 : cnt a = ((List.range 8).filter a.testBit).length + ((List.range 8).filter (a.testBit ∘ (· + 8))).length := by
    unfold cnt
    rw [er, List.filter_append, List.length_append, List.filter_map, List.length_map]
  have f1 : (List.range 8).filter (a.testBit ∘ (· + 8)) = (List.range 8).filter (a / 256).testBit := by
    apply List.filter_congr
    intro i hi
    show a.testBit (i + 8) = _
    rw [show (256 : Nat) = 2 ^ 8 from rfl, Nat.testBit_div_two_pow, Nat.add_comm]
  have f2 : (List.range 8).filter a.testBit = (List.range 8).filter (a % 256).testBit := by
    apply List.filter_congr
    intro i hi
    have : i < 8 := by simpa using hi
    rw [show (256 : Nat) = 2 ^ 8 from rfl, Nat.testBit_mod_two_pow, decide_eq_true this, Bool.true_and]
  rw [f1, f2] at e3
  omega
set_option maxRecDepth 100000 in
theorem ones_any (a : Nat) (w : World) (ha : a < 65536) : Calls Tryd.prog 26 #[.int .u16 a] w fun e w' => e = .returned (.int .i64 (cnt a)) ∧ ∃ n, w' = w.drewN n := by
  have Hc := Lib.hid (cnt_eq a ha)
  have h1 : a / 256 < 256 := by omega
  have h2 : a % 256 < 256 := by omega
  go_enter Tryd.func26, Tryd.ntmps26
  go_wp2
  refine wp_region_quiet_lit (by kernel_rfl) (by kernel_rfl) ?_
  generalize hT : Value.string _ = T
  have hT2 : T = .string Lib.pop8tab := by rw [← hT]; kernel_rfl
  have hI : ∀ w, (Instr.index 9 T (.int .u16 ((a : Int) / 256))).run Tryd.prog w = .ok (.int .u8 (Lib.onesCount (a / 256) : Nat)) w := by
    intro w
    rw [hT2, Lib.run_index_pop8tab _ _ _ _ Tryd.underlying9 (by omega) (by omega), ← Lib.pop8_eq ⟨a / 256, h1⟩]; rfl
  have hI2 : ∀ w, (Instr.index 9 T (.int .u16 (bits .and .u16 (a : Int) 255))).run Tryd.prog w = .ok (.int .u8 (Lib.onesCount (a % 256) : Nat)) w := by
    intro w
    have e := u16_and_nat a 255 ha (by omega)
    rw [show ((255 : Nat) : Int) = 255 from rfl, show a &&& 255 = a % 256 from Nat.and_two_pow_sub_one_eq_mod a 8] at e
    rw [hT2, e, Lib.run_index_pop8tab _ _ _ _ Tryd.underlying9 (by omega) (by omega), ← Lib.pop8_eq ⟨a % 256, h2⟩]
  have p1 := Lib.onesCount_le8 ⟨a / 256, h1⟩
  have p2 := Lib.onesCount_le8 ⟨a % 256, h2⟩
  simp only at p1 p2
  obtain ⟨x, hx⟩ : ∃ x, x = Lib.onesCount (a / 256) := ⟨_, rfl⟩
  obtain ⟨y, hy⟩ : ∃ y, y = Lib.onesCount (a % 256) := ⟨_, rfl⟩
  rw [← hx] at hI p1
  rw [← hy] at hI2 p2
  have Hx := Lib.hid hx
  have Hy := Lib.hid hy
  clear hT hT2 hx hy
  repeat (go_big_quiet_step (fail))
  refine wpQuiet_nil ?_
  intro _ hw'
  obtain ⟨nq, hw''⟩ := hw'
  subst hw''
  go_wp2
  go_ret
  refine ⟨ret_int ?_, _, rfl⟩
  rw [Hc.out, ← Hx.out, ← Hy.out]
  omega
theorem count_any (a : Nat) (w : World) (ha : a < 65536) : Calls Tryd.prog 18 #[.int .u16 a] w fun e w' => e = .returned (.int .i64 (cnt a)) ∧ ∃ n, w' = w.drewN n := by
  go_enter Tryd.func18, Tryd.ntmps18
  go_wp2_with (go_at_call 26; refine (ones_any _ _ ha).mono ?_; rintro e w' ⟨rfl, n, rfl⟩)
  go_ret
  exact ⟨rfl, _, rfl⟩
/-- 2 to a power, one by one. -/
theorem power_any (k : Nat) (w : World) (hk : k ≤ 16) : Calls Tryd.prog 23 #[.int .i64 k] w fun e w' => e = .returned (.int .i64 ((2 ^ k : Nat) : Int)) ∧ w = w' := by
  go_enter Tryd.func23, Tryd.ntmps23
  go_wp2
  go_loop [3, 4] (fun n i => ∃ j : Nat, j ≤ k ∧ i = .int .i64 j ∧ n = .int .i64 ((2 ^ j : Nat) : Int)) (fun _ i => k - (intOf i).toNat)
  case atStart => exact ⟨0, by omega, rfl, rfl⟩
  case round =>
    obtain ⟨j, hj, rfl, rfl⟩ := hrel
    have hp : (2 : Nat) ^ j ≤ 2 ^ 16 := Nat.pow_le_pow_right (by omega) (by omega)
    obtain ⟨p, hpe⟩ : ∃ p, p = (2 : Nat) ^ j := ⟨_, rfl⟩
    rw [← hpe] at hp ⊢
    have Hp := Lib.hid hpe
    clear hpe
    by_cases hlt : j < k
    · go_wp2
      go_round
      case rel => exact ⟨j + 1, by omega, by go_num, by rw [Nat.pow_succ, ← Hp.out]; go_num⟩
      case measure => simp [intOf]; omega
    · obtain rfl : j = k := by omega
      go_wp2
      go_ret
      exact ⟨ret_int (congrArg _ Hp.out), rfl⟩
theorem div_pow (a k : Nat) : (a / 2 ^ k % 2 = 1) ↔ a.testBit k = true := by
  rw [Nat.testBit_eq_decide_div_mod_eq]; simp
theorem refHas_any (a k : Nat) (w : World) (ha : a < 65536) (hk : k ≤ 15) : Calls Tryd.prog 16 #[.int .i64 a, .int .i64 k] w fun e w' => e = .returned (.bool (a.testBit k)) ∧ w = w' := by
  have hp := pow_lt k (by omega)
  have hp0 : 0 < (2 : Nat) ^ k := Nat.pow_pos (by omega)
  have hc := power_any k w (by omega)
  obtain ⟨p, hpe⟩ : ∃ p, p = (2 : Nat) ^ k := ⟨_, rfl⟩
  rw [← hpe] at hp hp0 hc
  have Hp := Lib.hid hpe
  clear hpe
  have hz : ((p : Int) == 0) = false := by simp; omega
  go_enter Tryd.func16, Tryd.ntmps16
  go_wp2_with (go_at_call 23; refine hc.mono ?_; rintro e w' ⟨rfl, rfl⟩)
  go_ret
  refine ⟨ret_bool ?_, rfl⟩
  have e1 : (a : Int) / (p : Int) = ((a / p : Nat) : Int) := (Int.natCast_ediv a p).symm
  have e2 : a / p ≤ a := Nat.div_le_self _ _
  have e3 : a.testBit k = decide (a / p % 2 = 1) := by rw [Nat.testBit_eq_decide_div_mod_eq, ← Hp.out]
  rw [e1, e3]
  obtain ⟨q, hq⟩ : ∃ q, q = a / p := ⟨_, rfl⟩
  rw [← hq] at e2 ⊢
  rw [IntWalk.wrap64_in _ (by omega), Int.tmod_eq_emod_of_nonneg (by omega), Bool.eq_iff_iff]
  simp
  omega
end Go.Proofs.YtpglioibdhcjkaaDoor
