/- The document's machine: what is reckoned, how far is jumped, what is loaded. -/
import Derived.Test.YtcageojoafkojaaJm
import Derived.Test.YtcageojoafkojaaGc
import Derived.Laws.ShiftsVarLaws
import Derived.LoopTactic
namespace Go.Proofs.Ytcageojoafkojaa
open Go.RowKit
set_option linter.unusedVariables false
set_option maxRecDepth 100000 in
theorem refReckon_0 (a b : Nat) (w : World) (ha : a < 4294967296) (hb : b < 4294967296) : Calls Try.prog 86 #[.int .i64 0, .int .u32 a, .int .u32 b] w fun e w' => e = .returned (.int .u32 (reckN 0 a b : Nat)) ∧ w = w' := by
  have hv : ((a : Int) + (b : Int)) % 4294967296 = ((reckN 0 a b : Nat) : Int) := by simp [reckN]
  obtain ⟨v, hvd⟩ : ∃ v, v = reckN 0 a b := ⟨_, rfl⟩
  rw [← hvd] at hv ⊢
  clear hvd
  go_enter Try.func86, Try.ntmps86
  go_wp2_with fail
  go_ret
  exact ⟨ret_int hv, rfl⟩
set_option maxRecDepth 100000 in
theorem refReckon_1 (a b : Nat) (w : World) (ha : a < 4294967296) (hb : b < 4294967296) : Calls Try.prog 86 #[.int .i64 1, .int .u32 a, .int .u32 b] w fun e w' => e = .returned (.int .u32 (reckN 1 a b : Nat)) ∧ w = w' := by
  have hv : ((a : Int) - (b : Int)) % 4294967296 = ((reckN 1 a b : Nat) : Int) := by simp [reckN]; omega
  obtain ⟨v, hvd⟩ : ∃ v, v = reckN 1 a b := ⟨_, rfl⟩
  rw [← hvd] at hv ⊢
  clear hvd
  go_enter Try.func86, Try.ntmps86
  go_wp2_with fail
  go_ret
  exact ⟨ret_int hv, rfl⟩
set_option maxRecDepth 100000 in
theorem refReckon_2 (a b : Nat) (w : World) (ha : a < 4294967296) (hb : b < 4294967296) : Calls Try.prog 86 #[.int .i64 2, .int .u32 a, .int .u32 b] w fun e w' => e = .returned (.int .u32 (reckN 2 a b : Nat)) ∧ w = w' := by
  have hv : ((a : Int) * (b : Int)) % 4294967296 = ((reckN 2 a b : Nat) : Int) := by simp [reckN]
  obtain ⟨v, hvd⟩ : ∃ v, v = reckN 2 a b := ⟨_, rfl⟩
  rw [← hvd] at hv ⊢
  clear hvd
  go_enter Try.func86, Try.ntmps86
  go_wp2_with fail
  go_ret
  exact ⟨ret_int hv, rfl⟩
set_option maxRecDepth 100000 in
theorem refReckon_3 (a b : Nat) (w : World) (ha : a < 4294967296) (hb : b < 4294967296) (hb0 : 0 < b) : Calls Try.prog 86 #[.int .i64 3, .int .u32 a, .int .u32 b] w fun e w' => e = .returned (.int .u32 (reckN 3 a b : Nat)) ∧ w = w' := by
  have hv : (a : Int) / (b : Int) = ((reckN 3 a b : Nat) : Int) := by simp [reckN]
  have hvl : reckN 3 a b ≤ a := Nat.div_le_self _ _
  obtain ⟨v, hvd⟩ : ∃ v, v = reckN 3 a b := ⟨_, rfl⟩
  rw [← hvd] at hv hvl ⊢
  clear hvd
  go_enter Try.func86, Try.ntmps86
  go_wp2_with fail
  go_ret
  exact ⟨rfl, rfl⟩
set_option maxRecDepth 100000 in
theorem refReckon_4 (a b : Nat) (w : World) (ha : a < 4294967296) (hb : b < 4294967296) : Calls Try.prog 86 #[.int .i64 4, .int .u32 a, .int .u32 b] w fun e w' => e = .returned (.int .u32 (reckN 4 a b : Nat)) ∧ w = w' := by
  have hv : bits .or .u32 (a : Int) (b : Int) = ((reckN 4 a b : Nat) : Int) := by rw [u32_or_nat a b ha hb]; simp [reckN]
  obtain ⟨v, hvd⟩ : ∃ v, v = reckN 4 a b := ⟨_, rfl⟩
  rw [← hvd] at hv ⊢
  clear hvd
  go_enter Try.func86, Try.ntmps86
  go_wp2_with fail
  go_ret
  exact ⟨rfl, rfl⟩
set_option maxRecDepth 100000 in
theorem refReckon_5 (a b : Nat) (w : World) (ha : a < 4294967296) (hb : b < 4294967296) : Calls Try.prog 86 #[.int .i64 5, .int .u32 a, .int .u32 b] w fun e w' => e = .returned (.int .u32 (reckN 5 a b : Nat)) ∧ w = w' := by
  have hv : bits .and .u32 (a : Int) (b : Int) = ((reckN 5 a b : Nat) : Int) := by rw [u32_and_nat a b ha hb]; simp [reckN]
  obtain ⟨v, hvd⟩ : ∃ v, v = reckN 5 a b := ⟨_, rfl⟩
  rw [← hvd] at hv ⊢
  clear hvd
  go_enter Try.func86, Try.ntmps86
  go_wp2_with fail
  go_ret
  exact ⟨rfl, rfl⟩
set_option maxRecDepth 100000 in
theorem refReckon_8 (a b : Nat) (w : World) (ha : a < 4294967296) (hb : b < 4294967296) : Calls Try.prog 86 #[.int .i64 8, .int .u32 a, .int .u32 b] w fun e w' => e = .returned (.int .u32 (reckN 8 a b : Nat)) ∧ w = w' := by
  have hv : (0 - (a : Int)) % 4294967296 = ((reckN 8 a b : Nat) : Int) := by simp [reckN]; omega
  have hv3 : (-(a : Int)) % 4294967296 = ((reckN 8 a b : Nat) : Int) := by rw [← hv]; congr 1; omega
  obtain ⟨v, hvd⟩ : ∃ v, v = reckN 8 a b := ⟨_, rfl⟩
  rw [← hvd] at hv hv3 ⊢
  clear hvd
  go_enter Try.func86, Try.ntmps86
  go_wp2_with fail
  go_ret
  exact ⟨ret_int hv3, rfl⟩
set_option maxRecDepth 100000 in
theorem refReckon_10 (a b : Nat) (w : World) (ha : a < 4294967296) (hb : b < 4294967296) : Calls Try.prog 86 #[.int .i64 10, .int .u32 a, .int .u32 b] w fun e w' => e = .returned (.int .u32 (reckN 10 a b : Nat)) ∧ w = w' := by
  have hv : bits .xor .u32 (a : Int) (b : Int) = ((reckN 10 a b : Nat) : Int) := by rw [u32_xor_nat a b ha hb]; simp [reckN]
  obtain ⟨v, hvd⟩ : ∃ v, v = reckN 10 a b := ⟨_, rfl⟩
  rw [← hvd] at hv ⊢
  clear hvd
  go_enter Try.func86, Try.ntmps86
  go_wp2_with fail
  go_ret
  exact ⟨rfl, rfl⟩
set_option maxRecDepth 100000 in
set_option maxHeartbeats 1000000 in
theorem refReckon_6 (a b : Nat) (w : World) (ha : a < 4294967296) (hb : b < 4294967296) : Calls Try.prog 86 #[.int .i64 6, .int .u32 a, .int .u32 b] w fun e w' => e = .returned (.int .u32 (reckN 6 a b : Nat)) ∧ w = w' := by
  obtain ⟨j, hj, hj2⟩ : ∃ j : Nat, (b : Int) % 32 = (j : Int) ∧ b % 32 = j := ⟨b % 32, by omega, rfl⟩
  have hj3 : j ≤ 31 := by omega
  have HZ := Lib.hid (show reckN 6 a b = a * 2 ^ j % 4294967296 by simp [reckN, hj2])
  have H0 := Lib.hid (show a = a * 2 ^ 0 % 4294967296 by simp; omega)
  obtain ⟨z, hz⟩ : ∃ z, z = reckN 6 a b := ⟨_, rfl⟩
  rw [← hz] at HZ ⊢
  clear hj2 hz
  go_enter Try.func86, Try.ntmps86
  go_wp2_with fail
  go_loop [1, 7] (fun x k => ∃ q v : Nat, q ≤ j ∧ k = .int .u32 q ∧ x = .int .u32 v ∧ v < 4294967296 ∧ Hid (v = a * 2 ^ q % 4294967296)) (fun _ k => j - (intOf k).toNat)
  case atStart => exact ⟨0, a, by omega, rfl, rfl, ha, H0⟩
  case round =>
    obtain ⟨q, v, hq, rfl, rfl, hv, HV⟩ := hrel
    by_cases hlt : q < j
    · have hv1 : ((v : Int) * 2) % 4294967296 = ((v * 2 % 4294967296 : Nat) : Int) := by simp
      have hb2 : v * 2 % 4294967296 < 4294967296 := by omega
      have HV2 := Lib.hid (show v * 2 % 4294967296 = a * 2 ^ (q + 1) % 4294967296 from (by rw [HV.out, Nat.pow_succ, ← Nat.mul_assoc, Nat.mod_mul_mod]))
      obtain ⟨v2, hv2⟩ : ∃ v2, v2 = v * 2 % 4294967296 := ⟨_, rfl⟩
      rw [← hv2] at hv1 hb2 HV2
      clear hv2
      go_wp2_with fail
      go_round
      case rel => exact ⟨q + 1, v2, by omega, by go_num, by first | rfl | rw [hv1], hb2, HV2⟩
      case measure => simp [intOf]; omega
    · obtain rfl : q = j := by omega
      obtain rfl : z = v := by rw [HZ.out, HV.out]
      go_wp2_with fail
      go_ret
      exact ⟨rfl, rfl⟩
set_option maxRecDepth 100000 in
set_option maxHeartbeats 1000000 in
theorem refReckon_7 (a b : Nat) (w : World) (ha : a < 4294967296) (hb : b < 4294967296) : Calls Try.prog 86 #[.int .i64 7, .int .u32 a, .int .u32 b] w fun e w' => e = .returned (.int .u32 (reckN 7 a b : Nat)) ∧ w = w' := by
  obtain ⟨j, hj, hj2⟩ : ∃ j : Nat, (b : Int) % 32 = (j : Int) ∧ b % 32 = j := ⟨b % 32, by omega, rfl⟩
  have hj3 : j ≤ 31 := by omega
  have HZ := Lib.hid (show reckN 7 a b = a / 2 ^ j by simp [reckN, hj2])
  have H0 := Lib.hid (show a = a / 2 ^ 0 by simp)
  obtain ⟨z, hz⟩ : ∃ z, z = reckN 7 a b := ⟨_, rfl⟩
  rw [← hz] at HZ ⊢
  clear hj2 hz
  go_enter Try.func86, Try.ntmps86
  go_wp2_with fail
  go_loop [1, 8] (fun x k => ∃ q v : Nat, q ≤ j ∧ k = .int .u32 q ∧ x = .int .u32 v ∧ v < 4294967296 ∧ Hid (v = a / 2 ^ q)) (fun _ k => j - (intOf k).toNat)
  case atStart => exact ⟨0, a, by omega, rfl, rfl, ha, H0⟩
  case round =>
    obtain ⟨q, v, hq, rfl, rfl, hv, HV⟩ := hrel
    by_cases hlt : q < j
    · have hv1 : (v : Int) / 2 = ((v / 2 : Nat) : Int) := by simp
      have hb2 : v / 2 < 4294967296 := by omega
      have HV2 := Lib.hid (show v / 2 = a / 2 ^ (q + 1) from (by rw [HV.out, Nat.pow_succ, Nat.div_div_eq_div_mul]))
      obtain ⟨v2, hv2⟩ : ∃ v2, v2 = v / 2 := ⟨_, rfl⟩
      rw [← hv2] at hv1 hb2 HV2
      clear hv2
      go_wp2_with fail
      go_round
      case rel => exact ⟨q + 1, v2, by omega, by go_num, by first | rfl | rw [hv1], hb2, HV2⟩
      case measure => simp [intOf]; omega
    · obtain rfl : q = j := by omega
      obtain rfl : z = v := by rw [HZ.out, HV.out]
      go_wp2_with fail
      go_ret
      exact ⟨rfl, rfl⟩
theorem refReckon_any (o a b : Nat) (w : World) (ha : a < 4294967296) (hb : b < 4294967296) (ho : o = 0 ∨ o = 1 ∨ o = 2 ∨ o = 3 ∨ o = 4 ∨ o = 5 ∨ o = 6 ∨ o = 7 ∨ o = 8 ∨ o = 10) (h3 : o = 3 → 0 < b) : Calls Try.prog 86 #[.int .i64 o, .int .u32 a, .int .u32 b] w fun e w' => e = .returned (.int .u32 (reckN o a b : Nat)) ∧ w = w' := by
  rcases ho with rfl | rfl | rfl | rfl | rfl | rfl | rfl | rfl | rfl | rfl
  · exact refReckon_0 a b w ha hb
  · exact refReckon_1 a b w ha hb
  · exact refReckon_2 a b w ha hb
  · exact refReckon_3 a b w ha hb (h3 rfl)
  · exact refReckon_4 a b w ha hb
  · exact refReckon_5 a b w ha hb
  · exact refReckon_6 a b w ha hb
  · exact refReckon_7 a b w ha hb
  · exact refReckon_8 a b w ha hb
  · exact refReckon_10 a b w ha hb
set_option maxRecDepth 100000 in
theorem refJump_0 (c t f k a b : Nat) (w : World) (hc : c / 16 = 0) (hk : k < 4294967296) : Calls Try.prog 87 #[.agg #[.int .i64 c, .int .i64 t, .int .i64 f, .int .u32 k], .int .u32 a, .int .u32 b] w (OneN .i64 k w) := by
  have e : (c : Int) / 16 = 0 := by omega
  clear hc
  go_enter Try.func87, Try.ntmps87
  go_wp2_with fail
  go_ret
  exact ⟨rfl, one_below _ _⟩
set_option maxRecDepth 100000 in
set_option maxHeartbeats 1000000 in
theorem refJump_1 (c t f k a b : Nat) (w : World) (hc : c / 16 = 1) (_ha : a < 4294967296) (_hb : b < 4294967296) : Calls Try.prog 87 #[.agg #[.int .i64 c, .int .i64 t, .int .i64 f, .int .u32 k], .int .u32 a, .int .u32 b] w (OneN .i64 (if holdsN 1 a b = true then t else f) w) := by
  have e : (c : Int) / 16 = 1 := by omega
  have hv : ((a : Int) == (b : Int)) = holdsN 1 a b := by rw [beq_nat]; rfl
  obtain ⟨v, hvd⟩ : ∃ v, v = holdsN 1 a b := ⟨_, rfl⟩
  rw [← hvd] at hv ⊢
  obtain ⟨d, hd⟩ : ∃ d, d = if v = true then t else f := ⟨_, rfl⟩
  rw [← hd]
  have HD := Lib.hid hd
  clear hc hvd hd
  cases v
  · obtain rfl : d = f := HD.out
    go_enter Try.func87, Try.ntmps87
    go_wp2_with fail
    go_ret
    exact ⟨rfl, one_below _ _⟩
  · obtain rfl : d = t := HD.out
    go_enter Try.func87, Try.ntmps87
    go_wp2_with fail
    go_ret
    exact ⟨rfl, one_below _ _⟩
set_option maxRecDepth 100000 in
set_option maxHeartbeats 1000000 in
theorem refJump_2 (c t f k a b : Nat) (w : World) (hc : c / 16 = 2) (_ha : a < 4294967296) (_hb : b < 4294967296) : Calls Try.prog 87 #[.agg #[.int .i64 c, .int .i64 t, .int .i64 f, .int .u32 k], .int .u32 a, .int .u32 b] w (OneN .i64 (if holdsN 2 a b = true then t else f) w) := by
  have e : (c : Int) / 16 = 2 := by omega
  have hv : decide (b < a) = holdsN 2 a b := by simp [holdsN]
  have hv' : decide ((b : Int) < (a : Int)) = holdsN 2 a b := by simp [holdsN]
  obtain ⟨v, hvd⟩ : ∃ v, v = holdsN 2 a b := ⟨_, rfl⟩
  rw [← hvd] at hv hv' ⊢
  obtain ⟨d, hd⟩ : ∃ d, d = if v = true then t else f := ⟨_, rfl⟩
  rw [← hd]
  have HD := Lib.hid hd
  clear hc hvd hd
  cases v
  · obtain rfl : d = f := HD.out
    go_enter Try.func87, Try.ntmps87
    go_wp2_with fail
    go_ret
    exact ⟨rfl, one_below _ _⟩
  · obtain rfl : d = t := HD.out
    go_enter Try.func87, Try.ntmps87
    go_wp2_with fail
    go_ret
    exact ⟨rfl, one_below _ _⟩
set_option maxRecDepth 100000 in
set_option maxHeartbeats 1000000 in
theorem refJump_3 (c t f k a b : Nat) (w : World) (hc : c / 16 = 3) (_ha : a < 4294967296) (_hb : b < 4294967296) : Calls Try.prog 87 #[.agg #[.int .i64 c, .int .i64 t, .int .i64 f, .int .u32 k], .int .u32 a, .int .u32 b] w (OneN .i64 (if holdsN 3 a b = true then t else f) w) := by
  have e : (c : Int) / 16 = 3 := by omega
  have hv : decide (b ≤ a) = holdsN 3 a b := by simp [holdsN]
  have hv' : decide ((b : Int) ≤ (a : Int)) = holdsN 3 a b := by simp [holdsN]
  obtain ⟨v, hvd⟩ : ∃ v, v = holdsN 3 a b := ⟨_, rfl⟩
  rw [← hvd] at hv hv' ⊢
  obtain ⟨d, hd⟩ : ∃ d, d = if v = true then t else f := ⟨_, rfl⟩
  rw [← hd]
  have HD := Lib.hid hd
  clear hc hvd hd
  cases v
  · obtain rfl : d = f := HD.out
    go_enter Try.func87, Try.ntmps87
    go_wp2_with fail
    go_ret
    exact ⟨rfl, one_below _ _⟩
  · obtain rfl : d = t := HD.out
    go_enter Try.func87, Try.ntmps87
    go_wp2_with fail
    go_ret
    exact ⟨rfl, one_below _ _⟩
set_option maxRecDepth 100000 in
set_option maxHeartbeats 1000000 in
theorem refJump_4 (c t f k a b : Nat) (w : World) (hc : c / 16 = 4) (ha : a < 4294967296) (hb : b < 4294967296) : Calls Try.prog 87 #[.agg #[.int .i64 c, .int .i64 t, .int .i64 f, .int .u32 k], .int .u32 a, .int .u32 b] w (OneN .i64 (if holdsN 4 a b = true then t else f) w) := by
  have e : (c : Int) / 16 = 4 := by omega
  obtain ⟨z, hz, hzd⟩ : ∃ z : Nat, bits .and .u32 (a : Int) (b : Int) = (z : Int) ∧ z = a &&& b := ⟨_, u32_and_nat a b ha hb, rfl⟩
  have hv : ((z : Int) != 0) = holdsN 4 a b := by
    show (!((z : Int) == ((0 : Nat) : Int))) = _
    rw [beq_nat, hzd]
    by_cases h0 : a &&& b = 0 <;> simp [holdsN, h0]
  clear hzd
  obtain ⟨v, hvd⟩ : ∃ v, v = holdsN 4 a b := ⟨_, rfl⟩
  rw [← hvd] at hv ⊢
  obtain ⟨d, hd⟩ : ∃ d, d = if v = true then t else f := ⟨_, rfl⟩
  rw [← hd]
  have HD := Lib.hid hd
  clear hc hvd hd
  cases v
  · obtain rfl : d = f := HD.out
    go_enter Try.func87, Try.ntmps87
    go_wp2_with fail
    go_ret
    exact ⟨rfl, one_below _ _⟩
  · obtain rfl : d = t := HD.out
    go_enter Try.func87, Try.ntmps87
    go_wp2_with fail
    go_ret
    exact ⟨rfl, one_below _ _⟩
theorem refJump_any (i : Ins) (s : Mc) (w : World) (hs : s.ok) (hi : i.ok) (hk : knownB i.c = true) (h5 : i.c % 8 = 5) :
    Calls Try.prog 87 #[.agg #[.int .i64 i.c, .int .i64 i.t, .int .i64 i.f, .int .u32 i.k], .int .u32 s.a, .int .u32 (opd i s : Nat)] w (OneN .i64 (farN i s) w) := by
  have hb := opd_lt hs hi.2.2.2
  have hc : i.c ∈ codesL := by simpa [knownB] using hk
  simp only [codesL, List.mem_cons, List.not_mem_nil, or_false] at hc
  have ho : i.c / 16 = 0 ∨ i.c / 16 = 1 ∨ i.c / 16 = 2 ∨ i.c / 16 = 3 ∨ i.c / 16 = 4 := by omega
  clear hc
  unfold farN
  rcases ho with e | e | e | e | e <;> rw [e]
  · rw [if_pos rfl]; exact refJump_0 _ _ _ _ _ _ w e hi.2.2.2
  · rw [if_neg (by decide)]; exact refJump_1 _ _ _ _ _ _ w e hs.a hb
  · rw [if_neg (by decide)]; exact refJump_2 _ _ _ _ _ _ w e hs.a hb
  · rw [if_neg (by decide)]; exact refJump_3 _ _ _ _ _ _ w e hs.a hb
  · rw [if_neg (by decide)]; exact refJump_4 _ _ _ _ _ _ w e hs.a hb
set_option maxRecDepth 100000 in
set_option maxHeartbeats 1000000 in
theorem refLoad_imm (c t f k : Nat) (R M : List Nat) (w : World) (hR : R.length = 16) (hM : M.length = 16) (hc : c / 32 = 0) : Calls Try.prog 85 #[.agg #[.int .i64 c, .int .i64 t, .int .i64 f, .int .u32 k], .agg (u32s R).toArray, .agg (u32s M).toArray] w (OneN .u32 (k : Nat) w) := by
  have e : (c : Int) / 32 = 0 := by omega
  clear hc hR hM
  go_enter Try.func85, Try.ntmps85
  go_wp2_with fail
  go_ret
  exact ⟨rfl, ((one_below w _).alloc (by simp) _).alloc (by simp; omega) _⟩
set_option maxRecDepth 100000 in
set_option maxHeartbeats 1000000 in
theorem refLoad_len (c t f k : Nat) (R M : List Nat) (w : World) (hR : R.length = 16) (hM : M.length = 16) (hc : c / 32 = 4) : Calls Try.prog 85 #[.agg #[.int .i64 c, .int .i64 t, .int .i64 f, .int .u32 k], .agg (u32s R).toArray, .agg (u32s M).toArray] w (OneN .u32 (64 : Nat) w) := by
  have e : (c : Int) / 32 = 4 := by omega
  clear hc hR hM
  go_enter Try.func85, Try.ntmps85
  go_wp2_with fail
  go_ret
  exact ⟨rfl, ((one_below w _).alloc (by simp) _).alloc (by simp; omega) _⟩
set_option maxRecDepth 100000 in
set_option maxHeartbeats 1000000 in
theorem refLoad_abs (c t f k : Nat) (R M : List Nat) (w : World) (hR : R.length = 16) (hM : M.length = 16) (hc : c / 32 = 1) (q x : Nat) (hq : k / 4 % 16 = q) (hx : R[q]? = some x) : Calls Try.prog 85 #[.agg #[.int .i64 c, .int .i64 t, .int .i64 f, .int .u32 k], .agg (u32s R).toArray, .agg (u32s M).toArray] w (OneN .u32 (x : Nat) w) := by
  have e : (c : Int) / 32 = 1 := by omega
  have e2 : (k : Int) / 4 % 16 = q := by omega
  have q0 : (0 : Int) ≤ (q : Int) := by omega
  have q1 : (q : Int) < 16 := by omega
  have q2 : (q : Int).toNat = q := by omega
  have hB := (Bk.new (l := u32s R) (w.alloc (.cells #[.int .i64 c, .int .i64 t, .int .i64 f, .int .u32 k] 159)) 153 _ rfl).alloc (.cells (u32s M).toArray 152)
  have es : (w.alloc (.cells #[.int .i64 c, .int .i64 t, .int .i64 f, .int .u32 k] 159)).heap.size = w.heap.size + 1 := by simp
  rw [es] at hB
  have cq := hB.cell q (u32s_at hx)
  obtain ⟨RA, hRA⟩ : ∃ RA, RA = (u32s R).toArray := ⟨_, rfl⟩
  obtain ⟨MA, hMA⟩ : ∃ MA, MA = (u32s M).toArray := ⟨_, rfl⟩
  rw [← hRA, ← hMA] at cq ⊢
  clear hc hR hM hq hx hB es hRA hMA
  go_enter Try.func85, Try.ntmps85
  go_wp2_with fail
  go_ret
  exact ⟨rfl, ((one_below w _).alloc (by simp) _).alloc (by simp; omega) _⟩
set_option maxRecDepth 100000 in
set_option maxHeartbeats 1000000 in
theorem refLoad_mem (c t f k : Nat) (R M : List Nat) (w : World) (hR : R.length = 16) (hM : M.length = 16) (hc : c / 32 = 3) (x : Nat) (hk : k < 16) (hx : M[k]? = some x) : Calls Try.prog 85 #[.agg #[.int .i64 c, .int .i64 t, .int .i64 f, .int .u32 k], .agg (u32s R).toArray, .agg (u32s M).toArray] w (OneN .u32 (x : Nat) w) := by
  have e : (c : Int) / 32 = 3 := by omega
  have e2 : (k : Int) % 16 = k := by omega
  have q0 : (0 : Int) ≤ (k : Int) := by omega
  have q1 : (k : Int) < 16 := by omega
  have q2 : (k : Int).toNat = k := by omega
  have hB := Bk.new (l := u32s M) ((w.alloc (.cells #[.int .i64 c, .int .i64 t, .int .i64 f, .int .u32 k] 159)).alloc (.cells (u32s R).toArray 153)) 152 _ rfl
  have es : ((w.alloc (.cells #[.int .i64 c, .int .i64 t, .int .i64 f, .int .u32 k] 159)).alloc (.cells (u32s R).toArray 153)).heap.size = w.heap.size + 1 + 1 := by simp
  rw [es] at hB
  have cq := hB.cell k (u32s_at hx)
  obtain ⟨RA, hRA⟩ : ∃ RA, RA = (u32s R).toArray := ⟨_, rfl⟩
  obtain ⟨MA, hMA⟩ : ∃ MA, MA = (u32s M).toArray := ⟨_, rfl⟩
  rw [← hRA, ← hMA] at cq ⊢
  clear hc hR hM hx hB es hRA hMA
  go_enter Try.func85, Try.ntmps85
  go_wp2_with fail
  go_ret
  exact ⟨rfl, ((one_below w _).alloc (by simp) _).alloc (by simp; omega) _⟩
theorem refLoad_any (bs : List Nat) (i : Ins) (m : List Nat) (w : World) (hm : m.length = 16) (hk : knownB i.c = true) (hr : rangeB i = true) (h01 : i.c % 8 = 0 ∨ i.c % 8 = 1) :
    Calls Try.prog 85 #[.agg #[.int .i64 i.c, .int .i64 i.t, .int .i64 i.f, .int .u32 i.k], .agg (u32s (Rec.ws bs)).toArray, .agg (u32s m).toArray] w (OneN .u32 (ldN (recW bs) i m) w) := by
  have hc : i.c ∈ codesL := by simpa [knownB] using hk
  simp only [codesL, List.mem_cons, List.not_mem_nil, or_false] at hc
  have hop : i.c = 32 ∨ (i.c = 96 ∨ i.c = 97) ∨ (i.c = 128 ∨ i.c = 129) ∨ (i.c = 0 ∨ i.c = 1) := by omega
  clear hc
  unfold ldN
  rcases hop with e1 | e1 | e1 | e1
  · rw [if_pos (by omega)]
    have h4 : i.k % 4 = 0 ∧ i.k ≤ 60 := by simpa [rangeB, e1] using hr
    refine refLoad_abs _ _ _ _ _ _ w rfl hm (by omega) (i.k / 4) _ (by omega) ?_
    rw [Rec.ws_at bs (i.k / 4) (by omega)]
    unfold recW
    rw [show 4 * (i.k / 4) = i.k by omega]
  · rw [if_neg (by omega), if_pos (by omega)]
    have hk16 := scratch_lt hr (by omega)
    refine refLoad_mem _ _ _ _ _ _ w rfl hm (by omega) _ hk16 ?_
    rw [List.getD_eq_getElem?_getD, List.getElem?_eq_getElem (by omega)]; rfl
  · rw [if_neg (by omega), if_neg (by omega), if_pos (by omega)]
    exact refLoad_len _ _ _ _ _ _ w rfl hm (by omega)
  · rw [if_neg (by omega), if_neg (by omega), if_neg (by omega)]
    exact refLoad_imm _ _ _ _ _ _ w rfl hm (by omega)
end Go.Proofs.Ytcageojoafkojaa
namespace Go.Proofs.Ytcageojoafkojaa
open Go.RowKit
def Ins.rcells (i : Ins) : List Value := [.int .i64 i.c, .int .i64 i.t, .int .i64 i.f, .int .u32 i.k]
theorem rcells_at : ∀ (l : List Ins) (k j : Nat), j < 4 → (l.flatMap Ins.rcells)[k * 4 + j]? = (l[k]?).bind (fun x => x.rcells[j]?)
  | [], k, j, _ => by simp
  | x :: l, k, j, hj => by
    rw [List.flatMap_cons]
    cases k with
    | zero => rw [List.getElem?_append_left (by simp [Ins.rcells]; omega)]; simp
    | succ k =>
      rw [List.getElem?_append_right (by simp [Ins.rcells]; omega), show (x.rcells).length = 4 from rfl, show (k + 1) * 4 + j - 4 = k * 4 + j from by omega, rcells_at l k j hj]
      simp
theorem rflat_len (l : List Ins) : (l.flatMap Ins.rcells).length = l.length * 4 := by
  induction l with
  | nil => rfl
  | cons i l ih => simp only [List.flatMap_cons, List.length_append, List.length_cons, ih, Ins.rcells]; simp; omega
theorem rcells_one (x : Ins) : ∀ u ∈ x.rcells, u.oneCell' = true := by
  intro u hu
  simp only [Ins.rcells, List.mem_cons, List.not_mem_nil, or_false] at hu
  rcases hu with rfl | rfl | rfl | rfl <;> rfl
theorem rfour_cells {w : World} {l : List Ins} {b o k : Nat} {x : Ins} (h : ∀ j u, (l.flatMap Ins.rcells)[j]? = some u → w.cell? ⟨b, o + j, none⟩ = some u) (hx : l[k]? = some x) :
    w.cell? ⟨b, o + k * 4, none⟩ = some (.int .i64 x.c) ∧ w.cell? ⟨b, o + k * 4 + 1, none⟩ = some (.int .i64 x.t) ∧ w.cell? ⟨b, o + k * 4 + 2, none⟩ = some (.int .i64 x.f) ∧ w.cell? ⟨b, o + k * 4 + 3, none⟩ = some (.int .u32 x.k) := by
  have hh : ∀ j, j < 4 → ∀ u, x.rcells[j]? = some u → w.cell? ⟨b, o + k * 4 + j, none⟩ = some u := fun j hj u hu => by
    rw [Nat.add_assoc]; exact h _ _ (by rw [rcells_at l k j hj, hx]; exact hu)
  exact ⟨hh 0 (by omega) _ rfl, hh 1 (by omega) _ rfl, hh 2 (by omega) _ rfl, hh 3 (by omega) _ rfl⟩
theorem infoRef : (Try.prog.info? 159).map (fun i => (i.zero, i.size, i.bytes)) = some (some (.agg #[.int .i64 0, .int .i64 0, .int .i64 0, .int .u32 0]), 4, 32) := by kernel_rfl
theorem rnew (w : World) (T : TypeId) (c t f k : Nat) (j : Nat) (u : Value) (h : (Ins.rcells ⟨c, t, f, k⟩)[j]? = some u) : (w.alloc (.cells #[.int .i64 c, .int .i64 t, .int .i64 f, .int .u32 k] T)).cell? ((⟨w.heap.size, 0, none⟩ : Addr).add j) = some u := by
  have hb := Bk.new (l := Ins.rcells ⟨c, t, f, k⟩) w T #[.int .i64 c, .int .i64 t, .int .i64 f, .int .u32 k] rfl
  rw [show (⟨w.heap.size, 0, none⟩ : Addr).add j = ⟨w.heap.size, 0 + j, none⟩ by unfold Addr.add; split <;> simp_all, Nat.zero_add]
  exact hb.cell j h
end Go.Proofs.Ytcageojoafkojaa
namespace Go.Proofs.Ytcageojoafkojaa
open Go.RowKit
/-- How far it has come. -/
structure RMem6 (bs : List Nat) (l : List Ins) (w wr : World) (ts : List (Nat × Nat × Nat)) (s : Mc) : Prop where
  live : Live (recW bs) l ts s
  ok : s.ok
  r : Bk wr w.heap.size 153 (u32s (Rec.ws bs))
  m : Bk wr (w.heap.size + 1) 152 (u32s s.m)
  bel : Below w.heap.size w wr
section
variable {bs : List Nat} {l : List Ins} {w wr w' : World} {ts : List (Nat × Nat × Nat)} {s s' : Mc} {i : Ins}
theorem RMem6.step (h : RMem6 bs l w wr ts s) (hb : Rec.IsRec bs) (hi : l[s.nx]? = some i) (hk : i.k < 4294967296) (hs : stepN (recW bs) i s = (s', none)) (hr : Bk w' w.heap.size 153 (u32s (Rec.ws bs))) (hm : Bk w' (w.heap.size + 1) 152 (u32s s'.m)) (hbel : Below w.heap.size w w') :
    RMem6 bs l w w' (ts ++ [(s.nx, s'.a, s'.x)]) s' :=
  ⟨live_none h.live hi hs, by have := step_ok (W := recW bs) (i := i) (recW_lt hb) h.ok hk; rwa [hs] at this, hr, hm, hbel⟩
theorem RMem6.kept (h : RMem6 bs l w wr ts s) (hb : Below wr.heap.size wr w') (hi : l[s.nx]? = some i) (hrec : Rec.IsRec bs) (hk : i.k < 4294967296) (hs : stepN (recW bs) i s = (s', none)) (hm : s'.m = s.m) : RMem6 bs l w w' (ts ++ [(s.nx, s'.a, s'.x)]) s' :=
  h.step hrec hi hk hs (h.r.kept hb) (by rw [hm]; exact h.m.kept hb) (h.bel.trans (hb.mono h.bel.size))
end
theorem size47 : (Try.prog.info? 152).map (·.size) = some 16 := by kernel_rfl
def RefTo (bs : List Nat) (l : List Ins) (w : World) (e : Ending) (w' : World) : Prop := e = .returned (.tuple #[.int .u32 (runN (recW bs) l).2, .int .i64 (runN (recW bs) l).1.length]) ∧ Below w.heap.size w w'
theorem refTo_out {bs : List Nat} {l : List Ins} {w w' : World} {ts : List (Nat × Nat × Nat)} {r : Nat} (h : runN (recW bs) l = (ts, r)) (hb : Below w.heap.size w w') : RefTo bs l w (.returned (.tuple #[.int .u32 r, .int .i64 (ts.length : Nat)])) w' := by
  unfold RefTo; rw [h]; exact ⟨rfl, hb⟩
theorem refTo_of {bs : List Nat} {l : List Ins} {w w' : World} {ts : List (Nat × Nat × Nat)} {t : Nat × Nat × Nat} {r n : Nat} (h : runN (recW bs) l = (ts ++ [t], r)) (hn : ts.length + 1 = n) (hb : Below w.heap.size w w') : RefTo bs l w (.returned (.tuple #[.int .u32 r, .int .i64 n])) w' := by
  unfold RefTo; rw [h, ← hn]; exact ⟨by simp, hb⟩
set_option maxRecDepth 100000 in
set_option maxHeartbeats 16000000 in
theorem refRun_any (bs : List Nat) (l : List Ins) (n : Nat) (A : Option Addr) (cp : Nat) (w : World) (hl : l.length = n) (g : Good l) (hok : ∀ i ∈ l, i.ok) (hb : Rec.IsRec bs) (hr : Rd w 4 n A (l.flatMap Ins.rcells)) :
    Calls Try.prog 57 #[.slice A n cp, .agg (u32s (Rec.ws bs)).toArray] w (RefTo bs l w) := by
  have HL := Lib.hid (And.intro hl (And.intro g (And.intro hok (And.intro hb hr))))
  have hn : n ≤ 4096 := hl ▸ g.many
  have hb0 := two_below w (.cells (u32s (Rec.ws bs)).toArray 153) (.cells (u32s (List.replicate 16 0)).toArray 152)
  have hk0 := (Bk.new (l := u32s (Rec.ws bs)) w 153 _ rfl).alloc (.cells (u32s (List.replicate 16 0)).toArray 152)
  have hk1 := Bk.new (l := u32s (List.replicate 16 0)) (w.alloc (.cells (u32s (Rec.ws bs)).toArray 153)) 152 _ rfl
  have es : (w.alloc (.cells (u32s (Rec.ws bs)).toArray 153)).heap.size = w.heap.size + 1 := by simp
  rw [es] at hk1
  have HM0 := Lib.hid (show RMem6 bs l w ((w.alloc (.cells (u32s (Rec.ws bs)).toArray 153)).alloc (.cells (u32s (List.replicate 16 0)).toArray 152)) [] mc0 from ⟨live_0 _ _, mc0_ok, hk0, hk1, hb0⟩)
  have hRA : (u32s (Rec.ws bs)).length = 16 := rfl
  have HRA := Lib.hid hRA
  obtain ⟨RL, hRL⟩ : ∃ RL, RL = u32s (Rec.ws bs) := ⟨_, rfl⟩
  rw [← hRL] at HM0 HRA ⊢
  have HRL := Lib.hid hRL
  clear hl g hok hb hr hb0 hk0 hk1 es hRA hRL
  go_enter Try.func57, Try.ntmps57
  go_wp2_with fail
  go_loopw [6, 7, 9, 10] (fun a x p st wr => ∃ ts s, a = .int .u32 (Mc.a s : Nat) ∧ x = .int .u32 (Mc.x s : Nat) ∧ p = .int .i64 (Mc.nx s : Nat) ∧ st = .int .i64 (List.length ts : Nat) ∧ Hid (RMem6 bs l w wr ts s)) (fun _ _ p _ _ => n - (intOf p).toNat)
  case atStart => exact ⟨[], mc0, rfl, rfl, rfl, rfl, HM0⟩
  case round =>
    obtain ⟨ts, s, rfl, rfl, rfl, rfl, HM⟩ := hrel
    clear HM0
    by_cases hlt : s.nx < n
    · obtain ⟨i, hi⟩ : ∃ i, l[s.nx]? = some i := ⟨_, List.getElem?_eq_getElem (by rw [HL.out.1]; exact hlt)⟩
      have hio := HL.out.2.2.1 i (List.mem_of_getElem? hi)
      obtain ⟨hk1, _, hk3⟩ := alone_zero.1 (HL.out.2.1.each _ _ hi)
      obtain ⟨b, o, hA, hbl, hcells⟩ := (HL.out.2.2.2.2.below HM.out.bel).pos (by omega)
      subst hA
      obtain ⟨q0, q1, q2, q3⟩ := rfour_cells hcells hi
      have hc : i.c ∈ codesL := by simpa [knownB] using hk1
      simp only [codesL, List.mem_cons, List.not_mem_nil, or_false] at hc
      have hts := live_len HM.out.live hi
      rw [HL.out.1] at hts
      have Rl := Lib.hid (fun w m hm h => refLoad_any bs i m w hm hk1 hk3 h)
      have Rk := Lib.hid (fun w ho h3 => refReckon_any (i.c / 16) s.a (opd i s) w HM.out.ok.a (opd_lt HM.out.ok hio.2.2.2) ho h3)
      have Rj := Lib.hid (fun w h5 => refJump_any i s w HM.out.ok hio hk1 h5)
      have Fin := Lib.hid (fun r s' (hs : stepN (recW bs) i s = (s', some r)) => live_some HM.out.live hi hs)
      have Nxt := Lib.hid (fun s' w' (hs : stepN (recW bs) i s = (s', none)) hb' hm' => HM.out.kept (w' := w') (s' := s') hb' hi HL.out.2.2.2.1 hio.2.2.2 hs hm')
      obtain ⟨c, t, f, k⟩ := i
      obtain ⟨a, x, m, nx⟩ := s
      dsimp only at *
      have HR1 := Lib.hid (HM.out.r.alloc (.cells #[.int .i64 c, .int .i64 t, .int .i64 f, .int .u32 k] 159))
      have HM1 := Lib.hid (HM.out.m.alloc (.cells #[.int .i64 c, .int .i64 t, .int .i64 f, .int .u32 k] 159))
      have HMl := Lib.hid (show (u32s m).length = 16 by have := HM.out.ok.m; simpa [u32s] using this)
      rw [← HRL.out] at HR1
      simp only [← HRL.out] at Rl
      have hcb : c < 65536 := hio.1
      clear hcells
      rcases (by omega : c % 8 = 0 ∨ c % 8 = 1 ∨ c % 8 = 2 ∨ c % 8 = 3 ∨ c % 8 = 4 ∨ c % 8 = 5 ∨ c % 8 = 6 ∨ c % 8 = 7) with hcl | hcl | hcl | hcl | hcl | hcl | hcl | hcl
      · have ec : (c : Int) % 8 = 0 := by omega
        have e8 : (c : Int) / 8 % 2 = 0 := by omega
        have Rl1 := Lib.hid (fun w => Rl.out w m HM.out.ok.m (by omega))
        obtain ⟨v, hvd⟩ : ∃ v, v = ldN (recW bs) ⟨c, t, f, k⟩ m := ⟨_, rfl⟩
        rw [← hvd] at Rl1
        have hst : stepN (recW bs) ⟨c, t, f, k⟩ ⟨a, x, m, nx⟩ = (⟨v, x, m, nx + 1⟩, none) := by rw [hvd]; unfold stepN; dsimp only; rw [if_pos hcl]
        have Nx := Lib.hid (fun w' hb' => Nxt.out _ w' hst hb' rfl)
        clear hcl hc hvd hst
        go_wp2_with (first | (refine ld_row HR1.out rfl _ rfl rfl Try.underlying153 Rec.size16 HRA.out ?_) | (refine ld_row HM1.out rfl _ rfl rfl Try.underlying152 size47 HMl.out ?_))
        refine (Rl1.out _).mono ?_
        rintro e w3 ⟨rfl, hb3⟩
        have HN := Lib.hid (Nx.out w3 ((one_below wr (.cells #[.int .i64 c, .int .i64 t, .int .i64 f, .int .u32 k] 159)).trans (hb3.mono (by simp))))
        clear hb3
        go_wp2_with fail
        go_roundw
        case rel => exact ⟨_, ⟨v, x, m, nx + 1⟩, rfl, rfl, by go_num, by rw [List.length_append]; go_num, HN⟩
        case measure => simp [intOf]; omega
      · have ec : (c : Int) % 8 = 1 := by omega
        have e8 : (c : Int) / 8 % 2 = 0 := by omega
        have Rl1 := Lib.hid (fun w => Rl.out w m HM.out.ok.m (by omega))
        obtain ⟨v, hvd⟩ : ∃ v, v = ldN (recW bs) ⟨c, t, f, k⟩ m := ⟨_, rfl⟩
        rw [← hvd] at Rl1
        have hst : stepN (recW bs) ⟨c, t, f, k⟩ ⟨a, x, m, nx⟩ = (⟨a, v, m, nx + 1⟩, none) := by rw [hvd]; unfold stepN; dsimp only; rw [if_neg (by omega), if_pos hcl]
        have Nx := Lib.hid (fun w' hb' => Nxt.out _ w' hst hb' rfl)
        clear hcl hc hvd hst
        go_wp2_with (first | (refine ld_row HR1.out rfl _ rfl rfl Try.underlying153 Rec.size16 HRA.out ?_) | (refine ld_row HM1.out rfl _ rfl rfl Try.underlying152 size47 HMl.out ?_))
        refine (Rl1.out _).mono ?_
        rintro e w3 ⟨rfl, hb3⟩
        have HN := Lib.hid (Nx.out w3 ((one_below wr (.cells #[.int .i64 c, .int .i64 t, .int .i64 f, .int .u32 k] 159)).trans (hb3.mono (by simp))))
        clear hb3
        go_wp2_with fail
        go_roundw
        case rel => exact ⟨_, ⟨a, v, m, nx + 1⟩, rfl, rfl, by go_num, by rw [List.length_append]; go_num, HN⟩
        case measure => simp [intOf]; omega
      · have ec : (c : Int) % 8 = 2 := by omega
        have e8 : (c : Int) / 8 % 2 = 0 := by omega
        have hk16 : k < 16 := scratch_lt hk3 (by show c = 96 ∨ c = 97 ∨ c = 2 ∨ c = 3; omega)
        have e16 : (k : Int) % 16 = k := by omega
        have k0 : (0 : Int) ≤ (k : Int) := by omega
        have k1 : (k : Int) < 16 := by omega
        have k2 : (k : Int).toNat = k := by omega
        have hml := HM.out.ok.m
        dsimp only at hml
        obtain ⟨u, hu⟩ : ∃ u, m[k]? = some u := ⟨_, List.getElem?_eq_getElem (show k < m.length by omega)⟩
        have cm := HM.out.m.cell k (u32s_at hu)
        have fm := HM.out.m.fz k
        have hgl := HM.out.m.lt
        have hst : stepN (recW bs) ⟨c, t, f, k⟩ ⟨a, x, m, nx⟩ = (⟨a, x, m.set k a, nx + 1⟩, none) := by unfold stepN; dsimp only; rw [if_neg (by omega), if_neg (by omega), if_pos hcl]
        have HN := Lib.hid (HM.out.step (w' := (wr.setCell ⟨w.heap.size + 1, k, none⟩ (.int .u32 a)).alloc (.cells #[.int .i64 c, .int .i64 t, .int .i64 f, .int .u32 k] 159)) HL.out.2.2.2.1 hi hio.2.2.2 hst ((HM.out.r.grown (only_set wr (w.heap.size + 1) k _) (fun e => by have := Option.some.inj e; omega)).alloc _) (by have := (HM.out.m.set k (.int .u32 a)).alloc (.cells #[.int .i64 c, .int .i64 t, .int .i64 f, .int .u32 k] 159); simpa [u32s, List.map_set] using this) ((only_below HM.out.bel (only_set wr (w.heap.size + 1) k _) HM.out.bel.size (Nat.le_succ _)).alloc (by have := HM.out.bel.size; simpa [World.setCell] using this) _))
        clear hcl hc hst hml hk16 hu
        go_wp2_with fail
        go_roundw
        case rel => exact ⟨_, ⟨a, x, m.set k a, nx + 1⟩, rfl, rfl, by go_num, by rw [List.length_append]; go_num, HN⟩
        case measure => simp [intOf]; omega
      · have ec : (c : Int) % 8 = 3 := by omega
        have e8 : (c : Int) / 8 % 2 = 0 := by omega
        have hk16 : k < 16 := scratch_lt hk3 (by show c = 96 ∨ c = 97 ∨ c = 2 ∨ c = 3; omega)
        have e16 : (k : Int) % 16 = k := by omega
        have k0 : (0 : Int) ≤ (k : Int) := by omega
        have k1 : (k : Int) < 16 := by omega
        have k2 : (k : Int).toNat = k := by omega
        have hml := HM.out.ok.m
        dsimp only at hml
        obtain ⟨u, hu⟩ : ∃ u, m[k]? = some u := ⟨_, List.getElem?_eq_getElem (show k < m.length by omega)⟩
        have cm := HM.out.m.cell k (u32s_at hu)
        have fm := HM.out.m.fz k
        have hgl := HM.out.m.lt
        have hst : stepN (recW bs) ⟨c, t, f, k⟩ ⟨a, x, m, nx⟩ = (⟨a, x, m.set k x, nx + 1⟩, none) := by unfold stepN; dsimp only; rw [if_neg (by omega), if_neg (by omega), if_neg (by omega), if_pos hcl]
        have HN := Lib.hid (HM.out.step (w' := (wr.setCell ⟨w.heap.size + 1, k, none⟩ (.int .u32 x)).alloc (.cells #[.int .i64 c, .int .i64 t, .int .i64 f, .int .u32 k] 159)) HL.out.2.2.2.1 hi hio.2.2.2 hst ((HM.out.r.grown (only_set wr (w.heap.size + 1) k _) (fun e => by have := Option.some.inj e; omega)).alloc _) (by have := (HM.out.m.set k (.int .u32 x)).alloc (.cells #[.int .i64 c, .int .i64 t, .int .i64 f, .int .u32 k] 159); simpa [u32s, List.map_set] using this) ((only_below HM.out.bel (only_set wr (w.heap.size + 1) k _) HM.out.bel.size (Nat.le_succ _)).alloc (by have := HM.out.bel.size; simpa [World.setCell] using this) _))
        clear hcl hc hst hml hk16 hu
        go_wp2_with fail
        go_roundw
        case rel => exact ⟨_, ⟨a, x, m.set k x, nx + 1⟩, rfl, rfl, by go_num, by rw [List.length_append]; go_num, HN⟩
        case measure => simp [intOf]; omega
      · by_cases h8 : c / 8 % 2 = 1
        · by_cases hdiv : c / 16 = 3 ∧ x = 0
          · have hop : opd ⟨c, t, f, k⟩ ⟨a, x, m, nx⟩ = x := by unfold opd; dsimp only; rw [if_pos h8]
            have ec : (c : Int) % 8 = 4 := by omega
            have e8 : (c : Int) / 8 % 2 = 1 := by omega
            obtain ⟨o4, ho4⟩ : ∃ o4, o4 = c / 16 := ⟨_, rfl⟩
            have eo : (c : Int) / 16 = o4 := by omega
            have e3 : ((o4 : Int) == 3) = true := by simp; omega
            have eb : ((x : Int) == 0) = true := by simp; omega
            have hst : stepN (recW bs) ⟨c, t, f, k⟩ ⟨a, x, m, nx⟩ = (⟨a, x, m, nx + 1⟩, some 0) := by unfold stepN; rw [hop]; dsimp only; rw [if_neg (by omega), if_neg (by omega), if_neg (by omega), if_neg (by omega), if_pos hcl, if_pos ⟨by omega, by omega⟩]
            have Fn := Lib.hid (Fin.out _ _ hst)
            clear hcl hc hst hop h8 ho4 hdiv
            go_wp2_with fail
            go_ret2
            exact refTo_of (n := ts.length + 1) Fn.out rfl (HM.out.bel.alloc HM.out.bel.size _)
          · have hop : opd ⟨c, t, f, k⟩ ⟨a, x, m, nx⟩ = x := by unfold opd; dsimp only; rw [if_pos h8]
            have ec : (c : Int) % 8 = 4 := by omega
            have e8 : (c : Int) / 8 % 2 = 1 := by omega
            obtain ⟨o4, ho4⟩ : ∃ o4, o4 = c / 16 := ⟨_, rfl⟩
            have eo : (c : Int) / 16 = o4 := by omega
            have Rk1 := Lib.hid (fun w => Rk.out w (by omega) (by rw [hop]; omega))
            rw [hop] at Rk1
            rw [← ho4] at Rk1
            obtain ⟨v, hvd⟩ : ∃ v, v = reckN o4 a x := ⟨_, rfl⟩
            rw [← hvd] at Rk1
            have hst : stepN (recW bs) ⟨c, t, f, k⟩ ⟨a, x, m, nx⟩ = (⟨v, x, m, nx + 1⟩, none) := by rw [hvd, ho4]; unfold stepN; rw [hop]; dsimp only; rw [if_neg (by omega), if_neg (by omega), if_neg (by omega), if_neg (by omega), if_pos hcl, if_neg (by omega)]
            have Nx := Lib.hid (fun w' hb' => Nxt.out _ w' hst hb' rfl)
            have hdi : ((o4 : Int) == 3) = false ∨ (((o4 : Int) == 3) = true ∧ ((x : Int) == 0) = false) := by
              by_cases h3 : c / 16 = 3
              · right; constructor <;> (simp; omega)
              · left; simp; omega
            clear hcl hc hst hop h8 ho4 hdiv hvd
            rcases hdi with e3 | ⟨e3, eb⟩
            all_goals
              go_wp2_with fail
              refine (Rk1.out _).mono ?_
              rintro e w3 ⟨rfl, rfl⟩
              have HN := Lib.hid (Nx.out _ (one_below wr (.cells #[.int .i64 c, .int .i64 t, .int .i64 f, .int .u32 k] 159)))
              go_wp2_with fail
              go_roundw
              case rel => exact ⟨_, ⟨v, x, m, nx + 1⟩, rfl, rfl, by go_num, by rw [List.length_append]; go_num, HN⟩
              case measure => simp [intOf]; omega
        · by_cases hdiv : c / 16 = 3 ∧ k = 0
          · have hop : opd ⟨c, t, f, k⟩ ⟨a, x, m, nx⟩ = k := by unfold opd; dsimp only; rw [if_neg h8]
            have ec : (c : Int) % 8 = 4 := by omega
            have e8 : (c : Int) / 8 % 2 = 0 := by omega
            obtain ⟨o4, ho4⟩ : ∃ o4, o4 = c / 16 := ⟨_, rfl⟩
            have eo : (c : Int) / 16 = o4 := by omega
            have e3 : ((o4 : Int) == 3) = true := by simp; omega
            have eb : ((k : Int) == 0) = true := by simp; omega
            have hst : stepN (recW bs) ⟨c, t, f, k⟩ ⟨a, x, m, nx⟩ = (⟨a, x, m, nx + 1⟩, some 0) := by unfold stepN; rw [hop]; dsimp only; rw [if_neg (by omega), if_neg (by omega), if_neg (by omega), if_neg (by omega), if_pos hcl, if_pos ⟨by omega, by omega⟩]
            have Fn := Lib.hid (Fin.out _ _ hst)
            clear hcl hc hst hop h8 ho4 hdiv
            go_wp2_with fail
            go_ret2
            exact refTo_of (n := ts.length + 1) Fn.out rfl (HM.out.bel.alloc HM.out.bel.size _)
          · have hop : opd ⟨c, t, f, k⟩ ⟨a, x, m, nx⟩ = k := by unfold opd; dsimp only; rw [if_neg h8]
            have ec : (c : Int) % 8 = 4 := by omega
            have e8 : (c : Int) / 8 % 2 = 0 := by omega
            obtain ⟨o4, ho4⟩ : ∃ o4, o4 = c / 16 := ⟨_, rfl⟩
            have eo : (c : Int) / 16 = o4 := by omega
            have Rk1 := Lib.hid (fun w => Rk.out w (by omega) (by rw [hop]; omega))
            rw [hop] at Rk1
            rw [← ho4] at Rk1
            obtain ⟨v, hvd⟩ : ∃ v, v = reckN o4 a k := ⟨_, rfl⟩
            rw [← hvd] at Rk1
            have hst : stepN (recW bs) ⟨c, t, f, k⟩ ⟨a, x, m, nx⟩ = (⟨v, x, m, nx + 1⟩, none) := by rw [hvd, ho4]; unfold stepN; rw [hop]; dsimp only; rw [if_neg (by omega), if_neg (by omega), if_neg (by omega), if_neg (by omega), if_pos hcl, if_neg (by omega)]
            have Nx := Lib.hid (fun w' hb' => Nxt.out _ w' hst hb' rfl)
            have hdi : ((o4 : Int) == 3) = false ∨ (((o4 : Int) == 3) = true ∧ ((k : Int) == 0) = false) := by
              by_cases h3 : c / 16 = 3
              · right; constructor <;> (simp; omega)
              · left; simp; omega
            clear hcl hc hst hop h8 ho4 hdiv hvd
            rcases hdi with e3 | ⟨e3, eb⟩
            all_goals
              go_wp2_with fail
              refine (Rk1.out _).mono ?_
              rintro e w3 ⟨rfl, rfl⟩
              have HN := Lib.hid (Nx.out _ (one_below wr (.cells #[.int .i64 c, .int .i64 t, .int .i64 f, .int .u32 k] 159)))
              go_wp2_with fail
              go_roundw
              case rel => exact ⟨_, ⟨v, x, m, nx + 1⟩, rfl, rfl, by go_num, by rw [List.length_append]; go_num, HN⟩
              case measure => simp [intOf]; omega
      · by_cases h8 : c / 8 % 2 = 1
        · have hop : opd ⟨c, t, f, k⟩ ⟨a, x, m, nx⟩ = x := by unfold opd; dsimp only; rw [if_pos h8]
          have ec : (c : Int) % 8 = 5 := by omega
          have e8 : (c : Int) / 8 % 2 = 1 := by omega
          have Rj1 := Lib.hid (fun w => Rj.out w hcl)
          have hd : farN ⟨c, t, f, k⟩ ⟨a, x, m, nx⟩ < 4294967296 := by have := hio.2.1; have := hio.2.2.1; have := hio.2.2.2; unfold farN; dsimp only at *; split; omega; split <;> omega
          obtain ⟨d, hdd⟩ : ∃ d, d = farN ⟨c, t, f, k⟩ ⟨a, x, m, nx⟩ := ⟨_, rfl⟩
          rw [← hdd] at Rj1 hd
          rw [hop] at Rj1
          have hst : stepN (recW bs) ⟨c, t, f, k⟩ ⟨a, x, m, nx⟩ = (⟨a, x, m, nx + 1 + d⟩, none) := by rw [hdd]; unfold stepN; dsimp only; rw [if_neg (by omega), if_neg (by omega), if_neg (by omega), if_neg (by omega), if_neg (by omega), if_pos hcl]
          have Nx := Lib.hid (fun w' hb' => Nxt.out _ w' hst hb' rfl)
          have d0 : (0 : Int) ≤ (d : Int) := by omega
          have d1 : (d : Int) < 4294967296 := by omega
          clear hcl hc hst hop h8 hdd hd
          go_wp2_with fail
          refine (Rj1.out _).mono ?_
          rintro e w3 ⟨rfl, hb3⟩
          have HN := Lib.hid (Nx.out w3 ((one_below wr (.cells #[.int .i64 c, .int .i64 t, .int .i64 f, .int .u32 k] 159)).trans (hb3.mono (by simp))))
          clear hb3
          go_wp2_with fail
          go_roundw
          case rel => exact ⟨_, ⟨a, x, m, nx + 1 + d⟩, rfl, rfl, by go_num, by rw [List.length_append]; go_num, HN⟩
          case measure => simp [intOf]; omega
        · have hop : opd ⟨c, t, f, k⟩ ⟨a, x, m, nx⟩ = k := by unfold opd; dsimp only; rw [if_neg h8]
          have ec : (c : Int) % 8 = 5 := by omega
          have e8 : (c : Int) / 8 % 2 = 0 := by omega
          have Rj1 := Lib.hid (fun w => Rj.out w hcl)
          have hd : farN ⟨c, t, f, k⟩ ⟨a, x, m, nx⟩ < 4294967296 := by have := hio.2.1; have := hio.2.2.1; have := hio.2.2.2; unfold farN; dsimp only at *; split; omega; split <;> omega
          obtain ⟨d, hdd⟩ : ∃ d, d = farN ⟨c, t, f, k⟩ ⟨a, x, m, nx⟩ := ⟨_, rfl⟩
          rw [← hdd] at Rj1 hd
          rw [hop] at Rj1
          have hst : stepN (recW bs) ⟨c, t, f, k⟩ ⟨a, x, m, nx⟩ = (⟨a, x, m, nx + 1 + d⟩, none) := by rw [hdd]; unfold stepN; dsimp only; rw [if_neg (by omega), if_neg (by omega), if_neg (by omega), if_neg (by omega), if_neg (by omega), if_pos hcl]
          have Nx := Lib.hid (fun w' hb' => Nxt.out _ w' hst hb' rfl)
          have d0 : (0 : Int) ≤ (d : Int) := by omega
          have d1 : (d : Int) < 4294967296 := by omega
          clear hcl hc hst hop h8 hdd hd
          go_wp2_with fail
          refine (Rj1.out _).mono ?_
          rintro e w3 ⟨rfl, hb3⟩
          have HN := Lib.hid (Nx.out w3 ((one_below wr (.cells #[.int .i64 c, .int .i64 t, .int .i64 f, .int .u32 k] 159)).trans (hb3.mono (by simp))))
          clear hb3
          go_wp2_with fail
          go_roundw
          case rel => exact ⟨_, ⟨a, x, m, nx + 1 + d⟩, rfl, rfl, by go_num, by rw [List.length_append]; go_num, HN⟩
          case measure => simp [intOf]; omega
      · by_cases h22 : c = 22
        · have ec : (c : Int) % 8 = 6 := by omega
          have e8 : (c : Int) / 8 % 2 = 0 := by omega
          have e22 : ((c : Int) == 22) = true := by simp; omega
          have hst : stepN (recW bs) ⟨c, t, f, k⟩ ⟨a, x, m, nx⟩ = (⟨a, x, m, nx + 1⟩, some a) := by unfold stepN; dsimp only; rw [if_neg (by omega), if_neg (by omega), if_neg (by omega), if_neg (by omega), if_neg (by omega), if_neg (by omega), if_pos hcl, if_pos (by omega)]
          have Fn := Lib.hid (Fin.out _ _ hst)
          clear hcl hc hst h22
          go_wp2_with fail
          go_ret2
          exact refTo_of (n := ts.length + 1) Fn.out rfl (HM.out.bel.alloc HM.out.bel.size _)
        · have ec : (c : Int) % 8 = 6 := by omega
          have e8 : (c : Int) / 8 % 2 = 0 := by omega
          have e22 : ((c : Int) == 22) = false := by simp; omega
          have hst : stepN (recW bs) ⟨c, t, f, k⟩ ⟨a, x, m, nx⟩ = (⟨a, x, m, nx + 1⟩, some k) := by unfold stepN; dsimp only; rw [if_neg (by omega), if_neg (by omega), if_neg (by omega), if_neg (by omega), if_neg (by omega), if_neg (by omega), if_pos hcl, if_neg (by omega)]
          have Fn := Lib.hid (Fin.out _ _ hst)
          clear hcl hc hst h22
          go_wp2_with fail
          go_ret2
          exact refTo_of (n := ts.length + 1) Fn.out rfl (HM.out.bel.alloc HM.out.bel.size _)
      · by_cases h7 : c = 7
        · have ec : (c : Int) % 8 = 7 := by omega
          have e8 : (c : Int) / 8 % 2 = 0 := by omega
          have e7 : ((c : Int) == 7) = true := by simp; omega
          have hst : stepN (recW bs) ⟨c, t, f, k⟩ ⟨a, x, m, nx⟩ = (⟨a, a, m, nx + 1⟩, none) := by unfold stepN; dsimp only; rw [if_neg (by omega), if_neg (by omega), if_neg (by omega), if_neg (by omega), if_neg (by omega), if_neg (by omega), if_neg (by omega), if_pos (by omega)]
          have Nx := Lib.hid (fun w' hb' => Nxt.out _ w' hst hb' rfl)
          have HN := Lib.hid (Nx.out _ (one_below wr (.cells #[.int .i64 c, .int .i64 t, .int .i64 f, .int .u32 k] 159)))
          clear hcl hc hst h7 Nx
          go_wp2_with fail
          go_roundw
          case rel => exact ⟨_, ⟨a, a, m, nx + 1⟩, rfl, rfl, by go_num, by rw [List.length_append]; go_num, HN⟩
          case measure => simp [intOf]; omega
        · have ec : (c : Int) % 8 = 7 := by omega
          have e8 : (c : Int) / 8 % 2 = 0 := by omega
          have e7 : ((c : Int) == 7) = false := by simp; omega
          have hst : stepN (recW bs) ⟨c, t, f, k⟩ ⟨a, x, m, nx⟩ = (⟨x, x, m, nx + 1⟩, none) := by unfold stepN; dsimp only; rw [if_neg (by omega), if_neg (by omega), if_neg (by omega), if_neg (by omega), if_neg (by omega), if_neg (by omega), if_neg (by omega), if_neg (by omega)]
          have Nx := Lib.hid (fun w' hb' => Nxt.out _ w' hst hb' rfl)
          have HN := Lib.hid (Nx.out _ (one_below wr (.cells #[.int .i64 c, .int .i64 t, .int .i64 f, .int .u32 k] 159)))
          clear hcl hc hst h7 Nx
          go_wp2_with fail
          go_roundw
          case rel => exact ⟨_, ⟨x, x, m, nx + 1⟩, rfl, rfl, by go_num, by rw [List.length_append]; go_num, HN⟩
          case measure => simp [intOf]; omega
    · have hdone := live_out HM.out.live (by rw [HL.out.1]; omega)
      have HD := Lib.hid hdone
      clear hdone
      go_wp2_with fail
      go_ret2
      exact refTo_out HD.out HM.out.bel
end Go.Proofs.Ytcageojoafkojaa

