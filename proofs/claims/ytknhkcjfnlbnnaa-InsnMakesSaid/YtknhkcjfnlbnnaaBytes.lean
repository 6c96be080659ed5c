/- An instruction's bytes, and back: the program's, the document's. -/
import Derived.Test.YtknhkcjfnlbnnaaProg
import Derived.Test.YtknhkcjfnlbnnaaMath
import Derived.WalkKit
import Derived.WalkSpells
import Derived.Lib.Hide
import Derived.Laws.BitsAllLaws
import Derived.Laws.ShiftsVarLaws
import Derived.IntWalk
import Derived.Lib.BitFns
import Derived.Below
set_option linter.unusedVariables false
namespace Go.Proofs.Ytknhkcjfnlbnnaa
open Go.RowKit
theorem two_below (w : World) (o o' : Obj) : Below w.heap.size w ((w.alloc o).alloc o') := ((Below.refl _ _).alloc (Nat.le_refl _) _).alloc (by simp) _
set_option maxRecDepth 100000 in
/-- Of an instruction whose numbers are put together of bytes: these. -/
theorem bytes_of (c k b0 b1 b2 b3 b4 b5 b6 b7 : Nat) (w : World) (h0 : b0 < 256) (h1 : b1 < 256) (h2 : b2 < 256) (h3 : b3 < 256) (h4 : b4 < 256) (h5 : b5 < 256) (h6 : b6 < 256) (h7 : b7 < 256)
    (hc : c = b0 + 256 * b1) (hk : k = b4 + 256 * b5 + 65536 * b6 + 16777216 * b7) :
    Calls Try.prog 10 #[.agg #[.int .u16 c, .int .u8 b2, .int .u8 b3, .int .u32 k]] w fun e w' =>
      e = .returned (.agg #[.int .u8 b0, .int .u8 b1, .int .u8 b2, .int .u8 b3, .int .u8 b4, .int .u8 b5, .int .u8 b6, .int .u8 b7]) ∧ Below w.heap.size w w' := by
  have e0 : (c : Int) % 256 = b0 := by omega
  have e1 : (c : Int) / 256 = b1 := by omega
  have e4 : (k : Int) % 256 = b4 := by omega
  have e5 : (k : Int) / 256 % 256 = b5 := by omega
  have e6 : (k : Int) / 65536 % 256 = b6 := by omega
  have e7 : (k : Int) / 16777216 = b7 := by omega
  have l1 : c < 65536 := by omega
  have l2 : k < 4294967296 := by omega
  have H := Lib.hid (And.intro hc hk)
  have E := Lib.hid (And.intro e0 (And.intro e1 (And.intro e4 (And.intro e5 (And.intro e6 e7)))))
  clear hc hk e0 e1 e4 e5 e6 e7
  go_enter Try.func10, Try.ntmps10
  go_wp2
  obtain ⟨e0, e1, e4, e5, e6, e7⟩ := E.out
  rw [e0, e1, e4, e5, e6, e7]
  exact bodyPost_ret (v := .agg #[.int .u8 b0, .int .u8 b1, .int .u8 b2, .int .u8 b3, .int .u8 b4, .int .u8 b5, .int .u8 b6, .int .u8 b7]) (by simp [results, Try.results10, go_sem]) rfl ⟨rfl, two_below _ _ _⟩
theorem or16 (b0 b1 : Nat) (h0 : b0 < 256) (h1 : b1 < 256) : bits .or .u16 (b0 : Int) ((b1 : Int) * 256) = ((b0 + 256 * b1 : Nat) : Int) := by
  have e := u16_or_nat b0 (b1 * 256) (by omega) (by omega)
  have e2 : ((b1 * 256 : Nat) : Int) = (b1 : Int) * 256 := by simp
  rw [e2] at e
  rw [e, Nat.or_comm]
  have := Nat.two_pow_add_eq_or_of_lt (i := 8) (b := b0) (by omega) b1
  rw [show b1 * 256 = 2 ^ 8 * b1 by omega, ← this]
  congr 1; omega
theorem or32 (x y i m : Nat) (h0 : x < 2 ^ i) (h1 : y < 256) (hi : i ≤ 24) (hm : m = 2 ^ i) : bits .or .u32 (x : Int) ((y : Int) * (m : Nat)) = ((x + m * y : Nat) : Int) := by
  subst hm
  have hp : 2 ^ i ≤ 2 ^ 24 := Nat.pow_le_pow_right (by omega) hi
  have hy : 2 ^ i * y ≤ 2 ^ 24 * 255 := Nat.mul_le_mul hp (by omega)
  have e := u32_or_nat x (2 ^ i * y) (by omega) (by omega)
  have e2 : ((2 ^ i * y : Nat) : Int) = (y : Int) * ((2 ^ i : Nat) : Int) := by rw [Int.natCast_mul, Int.mul_comm]
  rw [e2] at e
  rw [e, Nat.or_comm, ← Nat.two_pow_add_eq_or_of_lt h0 y, Nat.add_comm]
set_option maxRecDepth 100000 in
/-- Back: the numbers put together. -/
theorem of_of (c k b0 b1 b2 b3 b4 b5 b6 b7 : Nat) (w : World) (h0 : b0 < 256) (h1 : b1 < 256) (h2 : b2 < 256) (h3 : b3 < 256) (h4 : b4 < 256) (h5 : b5 < 256) (h6 : b6 < 256) (h7 : b7 < 256)
    (hc : c = b0 + 256 * b1) (hk : k = b4 + 256 * b5 + 65536 * b6 + 16777216 * b7) :
    Calls Try.prog 13 #[.agg #[.int .u8 b0, .int .u8 b1, .int .u8 b2, .int .u8 b3, .int .u8 b4, .int .u8 b5, .int .u8 b6, .int .u8 b7]] w fun e w' =>
      e = .returned (.agg #[.int .u16 c, .int .u8 b2, .int .u8 b3, .int .u32 k]) ∧ Below w.heap.size w w' := by
  have e0 := or16 b0 b1 h0 h1
  have e4 := or32 b4 b5 8 256 (by omega) h5 (by omega) rfl
  have e5 := or32 (b4 + 256 * b5) b6 16 65536 (by omega) h6 (by omega) rfl
  have e6 := or32 (b4 + 256 * b5 + 65536 * b6) b7 24 16777216 (by omega) h7 (by omega) rfl
  have E := Lib.hid (And.intro e0 (And.intro e4 (And.intro e5 e6)))
  have H := Lib.hid (And.intro hc hk)
  clear hc hk e0 e4 e5 e6
  go_enter Try.func13, Try.ntmps13
  go_wp2
  obtain ⟨e0, e4, e5, e6⟩ := E.out
  obtain ⟨hc, hk⟩ := H.out
  rw [show ((256 : Nat) : Int) = 256 from rfl] at e4
  rw [show ((65536 : Nat) : Int) = 65536 from rfl] at e5
  rw [show ((16777216 : Nat) : Int) = 16777216 from rfl] at e6
  rw [e0, e4, e5, e6, ← hc, ← hk]
  exact bodyPost_ret (v := .agg #[.int .u16 c, .int .u8 b2, .int .u8 b3, .int .u32 k]) (by simp [results, Try.results13, go_sem]) rfl ⟨rfl, two_below _ _ _⟩
set_option maxRecDepth 100000 in
theorem refBytes_of (c k b0 b1 b2 b3 b4 b5 b6 b7 : Nat) (w : World) (h0 : b0 < 256) (h1 : b1 < 256) (h2 : b2 < 256) (h3 : b3 < 256) (h4 : b4 < 256) (h5 : b5 < 256) (h6 : b6 < 256) (h7 : b7 < 256)
    (hc : c = b0 + 256 * b1) (hk : k = b4 + 256 * b5 + 65536 * b6 + 16777216 * b7) :
    Calls Try.prog 11 #[.agg #[.int .i64 c, .int .i64 b2, .int .i64 b3, .int .u32 k]] w fun e w' =>
      e = .returned (.slice (some ⟨w.heap.size + 1, 0, none⟩) 8 8) ∧
      w' = (w.alloc (.cells #[.int .i64 c, .int .i64 b2, .int .i64 b3, .int .u32 k] 38)).alloc (.cells #[.int .u8 b0, .int .u8 b1, .int .u8 b2, .int .u8 b3, .int .u8 b4, .int .u8 b5, .int .u8 b6, .int .u8 b7] 5) := by
  have e0 : (c : Int) % 256 = b0 := by omega
  have e1 : (c : Int) / 256 = b1 := by omega
  have e4 : (k : Int) % 256 = b4 := by omega
  have e5 : (k : Int) / 256 % 256 = b5 := by omega
  have e6 : (k : Int) / 65536 % 256 = b6 := by omega
  have e7 : (k : Int) / 16777216 = b7 := by omega
  have l1 : c < 65536 := by omega
  have l2 : k < 4294967296 := by omega
  have H := Lib.hid (And.intro hc hk)
  have E := Lib.hid (And.intro e0 (And.intro e1 (And.intro e4 (And.intro e5 (And.intro e6 e7)))))
  clear hc hk e0 e1 e4 e5 e6 e7
  go_enter Try.func11, Try.ntmps11
  go_wp2
  obtain ⟨e0, e1, e4, e5, e6, e7⟩ := E.out
  rw [e0, e1, e4, e5, e6, e7]
  go_ret
  exact ⟨rfl, rfl⟩
theorem lawRef_of (c t f k : Nat) (w : World) (hc : c < 65536) (ht : t < 256) (hf : f < 256) (hk : k < 4294967296) :
    Calls Try.prog 12 #[.agg #[.int .u16 c, .int .u8 t, .int .u8 f, .int .u32 k]] w fun e w' =>
      e = .returned (.agg #[.int .i64 c, .int .i64 t, .int .i64 f, .int .u32 k]) ∧ Below w.heap.size w w' := by
  go_enter Try.func12, Try.ntmps12
  go_wp2
  exact bodyPost_ret (v := .agg #[.int .i64 c, .int .i64 t, .int .i64 f, .int .u32 k]) (by simp [results, Try.results12, go_sem]) rfl ⟨rfl, two_below _ _ _⟩
theorem load_of (k : Int) (w : World) : Calls Try.prog 17 #[.int .u32 k] w fun e w' => e = .returned (.agg #[.int .u16 32, .int .u8 0, .int .u8 0, .int .u32 k]) ∧ Below w.heap.size w w' := by
  go_enter Try.func17, Try.ntmps17
  go_wp2
  exact bodyPost_ret (v := .agg #[.int .u16 32, .int .u8 0, .int .u8 0, .int .u32 k]) (by simp [results, Try.results17, go_sem]) rfl ⟨rfl, (Below.refl _ _).alloc (Nat.le_refl _) _⟩
theorem return_of (k : Int) (w : World) : Calls Try.prog 18 #[.int .u32 k] w fun e w' => e = .returned (.agg #[.int .u16 6, .int .u8 0, .int .u8 0, .int .u32 k]) ∧ Below w.heap.size w w' := by
  go_enter Try.func18, Try.ntmps18
  go_wp2
  exact bodyPost_ret (v := .agg #[.int .u16 6, .int .u8 0, .int .u8 0, .int .u32 k]) (by simp [results, Try.results18, go_sem]) rfl ⟨rfl, (Below.refl _ _).alloc (Nat.le_refl _) _⟩
theorem skip_of (k : Int) (w : World) : Calls Try.prog 19 #[.int .u32 k] w fun e w' => e = .returned (.agg #[.int .u16 5, .int .u8 0, .int .u8 0, .int .u32 k]) ∧ Below w.heap.size w w' := by
  go_enter Try.func19, Try.ntmps19
  go_wp2
  exact bodyPost_ret (v := .agg #[.int .u16 5, .int .u8 0, .int .u8 0, .int .u32 k]) (by simp [results, Try.results19, go_sem]) rfl ⟨rfl, (Below.refl _ _).alloc (Nat.le_refl _) _⟩
theorem mask_of (k : Int) (w : World) : Calls Try.prog 20 #[.int .u32 k] w fun e w' => e = .returned (.agg #[.int .u16 84, .int .u8 0, .int .u8 0, .int .u32 k]) ∧ Below w.heap.size w w' := by
  go_enter Try.func20, Try.ntmps20
  go_wp2
  exact bodyPost_ret (v := .agg #[.int .u16 84, .int .u8 0, .int .u8 0, .int .u32 k]) (by simp [results, Try.results20, go_sem]) rfl ⟨rfl, (Below.refl _ _).alloc (Nat.le_refl _) _⟩
theorem if_of (h k t f r : Int) (w : World) (hr : bits .or .u16 (bits .or .u16 5 h) 0 = r) : Calls Try.prog 21 #[.int .u16 h, .int .u32 k, .int .u8 t, .int .u8 f] w fun e w' => e = .returned (.agg #[.int .u16 r, .int .u8 t, .int .u8 f, .int .u32 k]) ∧ Below w.heap.size w w' := by
  go_enter Try.func21, Try.ntmps21
  go_wp2
  exact bodyPost_ret (v := .agg #[.int .u16 r, .int .u8 t, .int .u8 f, .int .u32 k]) (by simp [results, Try.results21, go_sem]) rfl ⟨rfl, (Below.refl _ _).alloc (Nat.le_refl _) _⟩
end Go.Proofs.Ytknhkcjfnlbnnaa
