/- The document's machine: what is reckoned, how far is jumped, what is loaded. -/
import Derived.Test.YtnkffjdoillmaaaLoad
import Derived.Test.YtnkffjdoillmaaaRef
import Derived.Laws.ShiftsVarLaws
import Derived.LoopTactic
namespace Go.Proofs.Ytnkffjdoillmaaa
open Go.RowKit
set_option linter.unusedVariables false
set_option maxRecDepth 100000 in
theorem refReckon_0 (a b : Nat) (w : World) (ha : a < 4294967296) (hb : b < 4294967296) : Calls Try.prog 41 #[.int .i64 0, .int .u32 a, .int .u32 b] w fun e w' => e = .returned (.int .u32 (reckN 0 a b : Nat)) ∧ w = w' := by
  have hv : ((a : Int) + (b : Int)) % 4294967296 = ((reckN 0 a b : Nat) : Int) := by simp [reckN]
  obtain ⟨v, hvd⟩ : ∃ v, v = reckN 0 a b := ⟨_, rfl⟩
  rw [← hvd] at hv ⊢
  clear hvd
  go_enter Try.func41, Try.ntmps41
  go_wp2_with fail
  go_ret
  exact ⟨ret_int hv, rfl⟩
set_option maxRecDepth 100000 in
theorem refReckon_1 (a b : Nat) (w : World) (ha : a < 4294967296) (hb : b < 4294967296) : Calls Try.prog 41 #[.int .i64 1, .int .u32 a, .int .u32 b] w fun e w' => e = .returned (.int .u32 (reckN 1 a b : Nat)) ∧ w = w' := by
  have hv : ((a : Int) - (b : Int)) % 4294967296 = ((reckN 1 a b : Nat) : Int) := by simp [reckN]; omega
  obtain ⟨v, hvd⟩ : ∃ v, v = reckN 1 a b := ⟨_, rfl⟩
  rw [← hvd] at hv ⊢
  clear hvd
  go_enter Try.func41, Try.ntmps41
  go_wp2_with fail
  go_ret
  exact ⟨ret_int hv, rfl⟩
set_option maxRecDepth 100000 in
theorem refReckon_2 (a b : Nat) (w : World) (ha : a < 4294967296) (hb : b < 4294967296) : Calls Try.prog 41 #[.int .i64 2, .int .u32 a, .int .u32 b] w fun e w' => e = .returned (.int .u32 (reckN 2 a b : Nat)) ∧ w = w' := by
  have hv : ((a : Int) * (b : Int)) % 4294967296 = ((reckN 2 a b : Nat) : Int) := by simp [reckN]
  obtain ⟨v, hvd⟩ : ∃ v, v = reckN 2 a b := ⟨_, rfl⟩
  rw [← hvd] at hv ⊢
  clear hvd
  go_enter Try.func41, Try.ntmps41
  go_wp2_with fail
  go_ret
  exact ⟨ret_int hv, rfl⟩
set_option maxRecDepth 100000 in
theorem refReckon_3 (a b : Nat) (w : World) (ha : a < 4294967296) (hb : b < 4294967296) (hb0 : 0 < b) : Calls Try.prog 41 #[.int .i64 3, .int .u32 a, .int .u32 b] w fun e w' => e = .returned (.int .u32 (reckN 3 a b : Nat)) ∧ w = w' := by
  have hv : (a : Int) / (b : Int) = ((reckN 3 a b : Nat) : Int) := by simp [reckN]
  have hvl : reckN 3 a b ≤ a := Nat.div_le_self _ _
  obtain ⟨v, hvd⟩ : ∃ v, v = reckN 3 a b := ⟨_, rfl⟩
  rw [← hvd] at hv hvl ⊢
  clear hvd
  go_enter Try.func41, Try.ntmps41
  go_wp2_with fail
  go_ret
  exact ⟨rfl, rfl⟩
set_option maxRecDepth 100000 in
theorem refReckon_4 (a b : Nat) (w : World) (ha : a < 4294967296) (hb : b < 4294967296) : Calls Try.prog 41 #[.int .i64 4, .int .u32 a, .int .u32 b] w fun e w' => e = .returned (.int .u32 (reckN 4 a b : Nat)) ∧ w = w' := by
  have hv : bits .or .u32 (a : Int) (b : Int) = ((reckN 4 a b : Nat) : Int) := by rw [u32_or_nat a b ha hb]; simp [reckN]
  obtain ⟨v, hvd⟩ : ∃ v, v = reckN 4 a b := ⟨_, rfl⟩
  rw [← hvd] at hv ⊢
  clear hvd
  go_enter Try.func41, Try.ntmps41
  go_wp2_with fail
  go_ret
  exact ⟨rfl, rfl⟩
set_option maxRecDepth 100000 in
theorem refReckon_5 (a b : Nat) (w : World) (ha : a < 4294967296) (hb : b < 4294967296) : Calls Try.prog 41 #[.int .i64 5, .int .u32 a, .int .u32 b] w fun e w' => e = .returned (.int .u32 (reckN 5 a b : Nat)) ∧ w = w' := by
  have hv : bits .and .u32 (a : Int) (b : Int) = ((reckN 5 a b : Nat) : Int) := by rw [u32_and_nat a b ha hb]; simp [reckN]
  obtain ⟨v, hvd⟩ : ∃ v, v = reckN 5 a b := ⟨_, rfl⟩
  rw [← hvd] at hv ⊢
  clear hvd
  go_enter Try.func41, Try.ntmps41
  go_wp2_with fail
  go_ret
  exact ⟨rfl, rfl⟩
set_option maxRecDepth 100000 in
theorem refReckon_8 (a b : Nat) (w : World) (ha : a < 4294967296) (hb : b < 4294967296) : Calls Try.prog 41 #[.int .i64 8, .int .u32 a, .int .u32 b] w fun e w' => e = .returned (.int .u32 (reckN 8 a b : Nat)) ∧ w = w' := by
  have hv : (0 - (a : Int)) % 4294967296 = ((reckN 8 a b : Nat) : Int) := by simp [reckN]; omega
  have hv3 : (-(a : Int)) % 4294967296 = ((reckN 8 a b : Nat) : Int) := by rw [← hv]; congr 1; omega
  obtain ⟨v, hvd⟩ : ∃ v, v = reckN 8 a b := ⟨_, rfl⟩
  rw [← hvd] at hv hv3 ⊢
  clear hvd
  go_enter Try.func41, Try.ntmps41
  go_wp2_with fail
  go_ret
  exact ⟨ret_int hv3, rfl⟩
set_option maxRecDepth 100000 in
theorem refReckon_10 (a b : Nat) (w : World) (ha : a < 4294967296) (hb : b < 4294967296) : Calls Try.prog 41 #[.int .i64 10, .int .u32 a, .int .u32 b] w fun e w' => e = .returned (.int .u32 (reckN 10 a b : Nat)) ∧ w = w' := by
  have hv : bits .xor .u32 (a : Int) (b : Int) = ((reckN 10 a b : Nat) : Int) := by rw [u32_xor_nat a b ha hb]; simp [reckN]
  obtain ⟨v, hvd⟩ : ∃ v, v = reckN 10 a b := ⟨_, rfl⟩
  rw [← hvd] at hv ⊢
  clear hvd
  go_enter Try.func41, Try.ntmps41
  go_wp2_with fail
  go_ret
  exact ⟨rfl, rfl⟩
set_option maxRecDepth 100000 in
set_option maxHeartbeats 1000000 in
theorem refReckon_6 (a b : Nat) (w : World) (ha : a < 4294967296) (hb : b < 4294967296) : Calls Try.prog 41 #[.int .i64 6, .int .u32 a, .int .u32 b] w fun e w' => e = .returned (.int .u32 (reckN 6 a b : Nat)) ∧ w = w' := by
  obtain ⟨j, hj, hj2⟩ : ∃ j : Nat, (b : Int) % 32 = (j : Int) ∧ b % 32 = j := ⟨b % 32, by omega, rfl⟩
  have hj3 : j ≤ 31 := by omega
  have HZ := Lib.hid (show reckN 6 a b = a * 2 ^ j % 4294967296 by simp [reckN, hj2])
  have H0 := Lib.hid (show a = a * 2 ^ 0 % 4294967296 by simp; omega)
  obtain ⟨z, hz⟩ : ∃ z, z = reckN 6 a b := ⟨_, rfl⟩
  rw [← hz] at HZ ⊢
  clear hj2 hz
  go_enter Try.func41, Try.ntmps41
  go_wp2_with fail
  go_loop [1, 7] (fun x k => ∃ q v : Nat, q ≤ j ∧ k = .int .u32 q ∧ x = .int .u32 v ∧ v < 4294967296 ∧ Hid (v = a * 2 ^ q % 4294967296)) (fun _ k => j - (intOf k).toNat)
  case atStart => exact ⟨0, a, by omega, rfl, rfl, ha, H0⟩
  case round =>
    obtain ⟨q, v, hq, rfl, rfl, hv, HV⟩ := hrel
    by_cases hlt : q < j
    · have hv1 : ((v : Int) * 2) % 4294967296 = ((v * 2 % 4294967296 : Nat) : Int) := by simp
      have hb2 : v * 2 % 4294967296 < 4294967296 := by omega
      have HV2 := Lib.hid (show v * 2 % 4294967296 = a * 2 ^ (q + 1) % 4294967296 from (by rw [HV.out, Nat.pow_succ, ← Nat.mul_assoc, Nat.mod_mul_mod]))
      obtain ⟨v2, hv2⟩ : ∃ v2, v2 = v * 2 % 4294967296 := ⟨_, rfl⟩
      rw [← hv2] at hv1 hb2 HV2
      clear hv2
      go_wp2_with fail
      go_round
      case rel => exact ⟨q + 1, v2, by omega, by go_num, by first | rfl | rw [hv1], hb2, HV2⟩
      case measure => simp [intOf]; omega
    · obtain rfl : q = j := by omega
      obtain rfl : z = v := by rw [HZ.out, HV.out]
      go_wp2_with fail
      go_ret
      exact ⟨rfl, rfl⟩
set_option maxRecDepth 100000 in
set_option maxHeartbeats 1000000 in
theorem refReckon_7 (a b : Nat) (w : World) (ha : a < 4294967296) (hb : b < 4294967296) : Calls Try.prog 41 #[.int .i64 7, .int .u32 a, .int .u32 b] w fun e w' => e = .returned (.int .u32 (reckN 7 a b : Nat)) ∧ w = w' := by
  obtain ⟨j, hj, hj2⟩ : ∃ j : Nat, (b : Int) % 32 = (j : Int) ∧ b % 32 = j := ⟨b % 32, by omega, rfl⟩
  have hj3 : j ≤ 31 := by omega
  have HZ := Lib.hid (show reckN 7 a b = a / 2 ^ j by simp [reckN, hj2])
  have H0 := Lib.hid (show a = a / 2 ^ 0 by simp)
  obtain ⟨z, hz⟩ : ∃ z, z = reckN 7 a b := ⟨_, rfl⟩
  rw [← hz] at HZ ⊢
  clear hj2 hz
  go_enter Try.func41, Try.ntmps41
  go_wp2_with fail
  go_loop [1, 8] (fun x k => ∃ q v : Nat, q ≤ j ∧ k = .int .u32 q ∧ x = .int .u32 v ∧ v < 4294967296 ∧ Hid (v = a / 2 ^ q)) (fun _ k => j - (intOf k).toNat)
  case atStart => exact ⟨0, a, by omega, rfl, rfl, ha, H0⟩
  case round =>
    obtain ⟨q, v, hq, rfl, rfl, hv, HV⟩ := hrel
    by_cases hlt : q < j
    · have hv1 : (v : Int) / 2 = ((v / 2 : Nat) : Int) := by simp
      have hb2 : v / 2 < 4294967296 := by omega
      have HV2 := Lib.hid (show v / 2 = a / 2 ^ (q + 1) from (by rw [HV.out, Nat.pow_succ, Nat.div_div_eq_div_mul]))
      obtain ⟨v2, hv2⟩ : ∃ v2, v2 = v / 2 := ⟨_, rfl⟩
      rw [← hv2] at hv1 hb2 HV2
      clear hv2
      go_wp2_with fail
      go_round
      case rel => exact ⟨q + 1, v2, by omega, by go_num, by first | rfl | rw [hv1], hb2, HV2⟩
      case measure => simp [intOf]; omega
    · obtain rfl : q = j := by omega
      obtain rfl : z = v := by rw [HZ.out, HV.out]
      go_wp2_with fail
      go_ret
      exact ⟨rfl, rfl⟩
theorem refReckon_any (o a b : Nat) (w : World) (ha : a < 4294967296) (hb : b < 4294967296) (ho : o = 0 ∨ o = 1 ∨ o = 2 ∨ o = 3 ∨ o = 4 ∨ o = 5 ∨ o = 6 ∨ o = 7 ∨ o = 8 ∨ o = 10) (h3 : o = 3 → 0 < b) : Calls Try.prog 41 #[.int .i64 o, .int .u32 a, .int .u32 b] w fun e w' => e = .returned (.int .u32 (reckN o a b : Nat)) ∧ w = w' := by
  rcases ho with rfl | rfl | rfl | rfl | rfl | rfl | rfl | rfl | rfl | rfl
  · exact refReckon_0 a b w ha hb
  · exact refReckon_1 a b w ha hb
  · exact refReckon_2 a b w ha hb
  · exact refReckon_3 a b w ha hb (h3 rfl)
  · exact refReckon_4 a b w ha hb
  · exact refReckon_5 a b w ha hb
  · exact refReckon_6 a b w ha hb
  · exact refReckon_7 a b w ha hb
  · exact refReckon_8 a b w ha hb
  · exact refReckon_10 a b w ha hb
set_option maxRecDepth 100000 in
theorem refJump_0 (c t f k a b : Nat) (w : World) (hc : c / 16 = 0) (hk : k < 4294967296) : Calls Try.prog 42 #[.agg #[.int .i64 c, .int .i64 t, .int .i64 f, .int .u32 k], .int .u32 a, .int .u32 b] w (OneN .i64 k w) := by
  have e : (c : Int) / 16 = 0 := by omega
  clear hc
  go_enter Try.func42, Try.ntmps42
  go_wp2_with fail
  go_ret
  exact ⟨rfl, one_below _ _⟩
set_option maxRecDepth 100000 in
set_option maxHeartbeats 1000000 in
theorem refJump_1 (c t f k a b : Nat) (w : World) (hc : c / 16 = 1) (_ha : a < 4294967296) (_hb : b < 4294967296) : Calls Try.prog 42 #[.agg #[.int .i64 c, .int .i64 t, .int .i64 f, .int .u32 k], .int .u32 a, .int .u32 b] w (OneN .i64 (if holdsN 1 a b = true then t else f) w) := by
  have e : (c : Int) / 16 = 1 := by omega
  have hv : ((a : Int) == (b : Int)) = holdsN 1 a b := by rw [beq_nat]; rfl
  obtain ⟨v, hvd⟩ : ∃ v, v = holdsN 1 a b := ⟨_, rfl⟩
  rw [← hvd] at hv ⊢
  obtain ⟨d, hd⟩ : ∃ d, d = if v = true then t else f := ⟨_, rfl⟩
  rw [← hd]
  have HD := Lib.hid hd
  clear hc hvd hd
  cases v
  · obtain rfl : d = f := HD.out
    go_enter Try.func42, Try.ntmps42
    go_wp2_with fail
    go_ret
    exact ⟨rfl, one_below _ _⟩
  · obtain rfl : d = t := HD.out
    go_enter Try.func42, Try.ntmps42
    go_wp2_with fail
    go_ret
    exact ⟨rfl, one_below _ _⟩
set_option maxRecDepth 100000 in
set_option maxHeartbeats 1000000 in
theorem refJump_2 (c t f k a b : Nat) (w : World) (hc : c / 16 = 2) (_ha : a < 4294967296) (_hb : b < 4294967296) : Calls Try.prog 42 #[.agg #[.int .i64 c, .int .i64 t, .int .i64 f, .int .u32 k], .int .u32 a, .int .u32 b] w (OneN .i64 (if holdsN 2 a b = true then t else f) w) := by
  have e : (c : Int) / 16 = 2 := by omega
  have hv : decide (b < a) = holdsN 2 a b := by simp [holdsN]
  have hv' : decide ((b : Int) < (a : Int)) = holdsN 2 a b := by simp [holdsN]
  obtain ⟨v, hvd⟩ : ∃ v, v = holdsN 2 a b := ⟨_, rfl⟩
  rw [← hvd] at hv hv' ⊢
  obtain ⟨d, hd⟩ : ∃ d, d = if v = true then t else f := ⟨_, rfl⟩
  rw [← hd]
  have HD := Lib.hid hd
  clear hc hvd hd
  cases v
  · obtain rfl : d = f := HD.out
    go_enter Try.func42, Try.ntmps42
    go_wp2_with fail
    go_ret
    exact ⟨rfl, one_below _ _⟩
  · obtain rfl : d = t := HD.out
    go_enter Try.func42, Try.ntmps42
    go_wp2_with fail
    go_ret
    exact ⟨rfl, one_below _ _⟩
set_option maxRecDepth 100000 in
set_option maxHeartbeats 1000000 in
theorem refJump_3 (c t f k a b : Nat) (w : World) (hc : c / 16 = 3) (_ha : a < 4294967296) (_hb : b < 4294967296) : Calls Try.prog 42 #[.agg #[.int .i64 c, .int .i64 t, .int .i64 f, .int .u32 k], .int .u32 a, .int .u32 b] w (OneN .i64 (if holdsN 3 a b = true then t else f) w) := by
  have e : (c : Int) / 16 = 3 := by omega
  have hv : decide (b ≤ a) = holdsN 3 a b := by simp [holdsN]
  have hv' : decide ((b : Int) ≤ (a : Int)) = holdsN 3 a b := by simp [holdsN]
  obtain ⟨v, hvd⟩ : ∃ v, v = holdsN 3 a b := ⟨_, rfl⟩
  rw [← hvd] at hv hv' ⊢
  obtain ⟨d, hd⟩ : ∃ d, d = if v = true then t else f := ⟨_, rfl⟩
  rw [← hd]
  have HD := Lib.hid hd
  clear hc hvd hd
  cases v
  · obtain rfl : d = f := HD.out
    go_enter Try.func42, Try.ntmps42
    go_wp2_with fail
    go_ret
    exact ⟨rfl, one_below _ _⟩
  · obtain rfl : d = t := HD.out
    go_enter Try.func42, Try.ntmps42
    go_wp2_with fail
    go_ret
    exact ⟨rfl, one_below _ _⟩
set_option maxRecDepth 100000 in
set_option maxHeartbeats 1000000 in
theorem refJump_4 (c t f k a b : Nat) (w : World) (hc : c / 16 = 4) (ha : a < 4294967296) (hb : b < 4294967296) : Calls Try.prog 42 #[.agg #[.int .i64 c, .int .i64 t, .int .i64 f, .int .u32 k], .int .u32 a, .int .u32 b] w (OneN .i64 (if holdsN 4 a b = true then t else f) w) := by
  have e : (c : Int) / 16 = 4 := by omega
  obtain ⟨z, hz, hzd⟩ : ∃ z : Nat, bits .and .u32 (a : Int) (b : Int) = (z : Int) ∧ z = a &&& b := ⟨_, u32_and_nat a b ha hb, rfl⟩
  have hv : ((z : Int) != 0) = holdsN 4 a b := by
    show (!((z : Int) == ((0 : Nat) : Int))) = _
    rw [beq_nat, hzd]
    by_cases h0 : a &&& b = 0 <;> simp [holdsN, h0]
  clear hzd
  obtain ⟨v, hvd⟩ : ∃ v, v = holdsN 4 a b := ⟨_, rfl⟩
  rw [← hvd] at hv ⊢
  obtain ⟨d, hd⟩ : ∃ d, d = if v = true then t else f := ⟨_, rfl⟩
  rw [← hd]
  have HD := Lib.hid hd
  clear hc hvd hd
  cases v
  · obtain rfl : d = f := HD.out
    go_enter Try.func42, Try.ntmps42
    go_wp2_with fail
    go_ret
    exact ⟨rfl, one_below _ _⟩
  · obtain rfl : d = t := HD.out
    go_enter Try.func42, Try.ntmps42
    go_wp2_with fail
    go_ret
    exact ⟨rfl, one_below _ _⟩
theorem refJump_any (i : Ins) (s : Mc) (w : World) (hs : s.ok) (hi : i.ok) (hk : knownB i.c = true) (h5 : i.c % 8 = 5) :
    Calls Try.prog 42 #[.agg #[.int .i64 i.c, .int .i64 i.t, .int .i64 i.f, .int .u32 i.k], .int .u32 s.a, .int .u32 (opd i s : Nat)] w (OneN .i64 (farN i s) w) := by
  have hb := opd_lt hs hi.2.2.2
  have hc : i.c ∈ codesL := by simpa [knownB] using hk
  simp only [codesL, List.mem_cons, List.not_mem_nil, or_false] at hc
  have ho : i.c / 16 = 0 ∨ i.c / 16 = 1 ∨ i.c / 16 = 2 ∨ i.c / 16 = 3 ∨ i.c / 16 = 4 := by omega
  clear hc
  unfold farN
  rcases ho with e | e | e | e | e <;> rw [e]
  · rw [if_pos rfl]; exact refJump_0 _ _ _ _ _ _ w e hi.2.2.2
  · rw [if_neg (by decide)]; exact refJump_1 _ _ _ _ _ _ w e hs.a hb
  · rw [if_neg (by decide)]; exact refJump_2 _ _ _ _ _ _ w e hs.a hb
  · rw [if_neg (by decide)]; exact refJump_3 _ _ _ _ _ _ w e hs.a hb
  · rw [if_neg (by decide)]; exact refJump_4 _ _ _ _ _ _ w e hs.a hb
set_option maxRecDepth 100000 in
set_option maxHeartbeats 1000000 in
theorem refLoad_imm (c t f k : Nat) (R M : List Nat) (w : World) (hR : R.length = 16) (hM : M.length = 16) (hc : c / 32 = 0) : Calls Try.prog 40 #[.agg #[.int .i64 c, .int .i64 t, .int .i64 f, .int .u32 k], .agg (u32s R).toArray, .agg (u32s M).toArray] w (OneN .u32 (k : Nat) w) := by
  have e : (c : Int) / 32 = 0 := by omega
  clear hc hR hM
  go_enter Try.func40, Try.ntmps40
  go_wp2_with fail
  go_ret
  exact ⟨rfl, ((one_below w _).alloc (by simp) _).alloc (by simp; omega) _⟩
set_option maxRecDepth 100000 in
set_option maxHeartbeats 1000000 in
theorem refLoad_len (c t f k : Nat) (R M : List Nat) (w : World) (hR : R.length = 16) (hM : M.length = 16) (hc : c / 32 = 4) : Calls Try.prog 40 #[.agg #[.int .i64 c, .int .i64 t, .int .i64 f, .int .u32 k], .agg (u32s R).toArray, .agg (u32s M).toArray] w (OneN .u32 (64 : Nat) w) := by
  have e : (c : Int) / 32 = 4 := by omega
  clear hc hR hM
  go_enter Try.func40, Try.ntmps40
  go_wp2_with fail
  go_ret
  exact ⟨rfl, ((one_below w _).alloc (by simp) _).alloc (by simp; omega) _⟩
set_option maxRecDepth 100000 in
set_option maxHeartbeats 1000000 in
theorem refLoad_abs (c t f k : Nat) (R M : List Nat) (w : World) (hR : R.length = 16) (hM : M.length = 16) (hc : c / 32 = 1) (q x : Nat) (hq : k / 4 % 16 = q) (hx : R[q]? = some x) : Calls Try.prog 40 #[.agg #[.int .i64 c, .int .i64 t, .int .i64 f, .int .u32 k], .agg (u32s R).toArray, .agg (u32s M).toArray] w (OneN .u32 (x : Nat) w) := by
  have e : (c : Int) / 32 = 1 := by omega
  have e2 : (k : Int) / 4 % 16 = q := by omega
  have q0 : (0 : Int) ≤ (q : Int) := by omega
  have q1 : (q : Int) < 16 := by omega
  have q2 : (q : Int).toNat = q := by omega
  have hB := (Bk.new (l := u32s R) (w.alloc (.cells #[.int .i64 c, .int .i64 t, .int .i64 f, .int .u32 k] 79)) 48 _ rfl).alloc (.cells (u32s M).toArray 47)
  have es : (w.alloc (.cells #[.int .i64 c, .int .i64 t, .int .i64 f, .int .u32 k] 79)).heap.size = w.heap.size + 1 := by simp
  rw [es] at hB
  have cq := hB.cell q (u32s_at hx)
  obtain ⟨RA, hRA⟩ : ∃ RA, RA = (u32s R).toArray := ⟨_, rfl⟩
  obtain ⟨MA, hMA⟩ : ∃ MA, MA = (u32s M).toArray := ⟨_, rfl⟩
  rw [← hRA, ← hMA] at cq ⊢
  clear hc hR hM hq hx hB es hRA hMA
  go_enter Try.func40, Try.ntmps40
  go_wp2_with fail
  go_ret
  exact ⟨rfl, ((one_below w _).alloc (by simp) _).alloc (by simp; omega) _⟩
set_option maxRecDepth 100000 in
set_option maxHeartbeats 1000000 in
theorem refLoad_mem (c t f k : Nat) (R M : List Nat) (w : World) (hR : R.length = 16) (hM : M.length = 16) (hc : c / 32 = 3) (x : Nat) (hk : k < 16) (hx : M[k]? = some x) : Calls Try.prog 40 #[.agg #[.int .i64 c, .int .i64 t, .int .i64 f, .int .u32 k], .agg (u32s R).toArray, .agg (u32s M).toArray] w (OneN .u32 (x : Nat) w) := by
  have e : (c : Int) / 32 = 3 := by omega
  have e2 : (k : Int) % 16 = k := by omega
  have q0 : (0 : Int) ≤ (k : Int) := by omega
  have q1 : (k : Int) < 16 := by omega
  have q2 : (k : Int).toNat = k := by omega
  have hB := Bk.new (l := u32s M) ((w.alloc (.cells #[.int .i64 c, .int .i64 t, .int .i64 f, .int .u32 k] 79)).alloc (.cells (u32s R).toArray 48)) 47 _ rfl
  have es : ((w.alloc (.cells #[.int .i64 c, .int .i64 t, .int .i64 f, .int .u32 k] 79)).alloc (.cells (u32s R).toArray 48)).heap.size = w.heap.size + 1 + 1 := by simp
  rw [es] at hB
  have cq := hB.cell k (u32s_at hx)
  obtain ⟨RA, hRA⟩ : ∃ RA, RA = (u32s R).toArray := ⟨_, rfl⟩
  obtain ⟨MA, hMA⟩ : ∃ MA, MA = (u32s M).toArray := ⟨_, rfl⟩
  rw [← hRA, ← hMA] at cq ⊢
  clear hc hR hM hx hB es hRA hMA
  go_enter Try.func40, Try.ntmps40
  go_wp2_with fail
  go_ret
  exact ⟨rfl, ((one_below w _).alloc (by simp) _).alloc (by simp; omega) _⟩
theorem refLoad_any (bs : List Nat) (i : Ins) (m : List Nat) (w : World) (hm : m.length = 16) (hk : knownB i.c = true) (hr : rangeB i = true) (h01 : i.c % 8 = 0 ∨ i.c % 8 = 1) :
    Calls Try.prog 40 #[.agg #[.int .i64 i.c, .int .i64 i.t, .int .i64 i.f, .int .u32 i.k], .agg (u32s (Rec.ws bs)).toArray, .agg (u32s m).toArray] w (OneN .u32 (ldN (recW bs) i m) w) := by
  have hc : i.c ∈ codesL := by simpa [knownB] using hk
  simp only [codesL, List.mem_cons, List.not_mem_nil, or_false] at hc
  have hop : i.c = 32 ∨ (i.c = 96 ∨ i.c = 97) ∨ (i.c = 128 ∨ i.c = 129) ∨ (i.c = 0 ∨ i.c = 1) := by omega
  clear hc
  unfold ldN
  rcases hop with e1 | e1 | e1 | e1
  · rw [if_pos (by omega)]
    have h4 : i.k % 4 = 0 ∧ i.k ≤ 60 := by simpa [rangeB, e1] using hr
    refine refLoad_abs _ _ _ _ _ _ w rfl hm (by omega) (i.k / 4) _ (by omega) ?_
    rw [Rec.ws_at bs (i.k / 4) (by omega)]
    unfold recW
    rw [show 4 * (i.k / 4) = i.k by omega]
  · rw [if_neg (by omega), if_pos (by omega)]
    have hk16 := scratch_lt hr (by omega)
    refine refLoad_mem _ _ _ _ _ _ w rfl hm (by omega) _ hk16 ?_
    rw [List.getD_eq_getElem?_getD, List.getElem?_eq_getElem (by omega)]; rfl
  · rw [if_neg (by omega), if_neg (by omega), if_pos (by omega)]
    exact refLoad_len _ _ _ _ _ _ w rfl hm (by omega)
  · rw [if_neg (by omega), if_neg (by omega), if_neg (by omega)]
    exact refLoad_imm _ _ _ _ _ _ w rfl hm (by omega)
end Go.Proofs.Ytnkffjdoillmaaa
