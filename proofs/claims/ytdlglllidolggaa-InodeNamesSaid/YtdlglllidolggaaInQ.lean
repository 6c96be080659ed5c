/- A nil table; the fixed fact. -/
import Derived.Test.YtdlglllidolggaaInP
namespace Go.Proofs.Ytdlglllidolggaa.In
open Go.RowKit Go.Maps Go.WideMaps

theorem taking_nil (w : World) (n : Int) (s : ByteArray) : Calls Try.prog 37 #[.pointer none, .int .u16 n, .string s] w fun e w' => e = .returned (.tuple #[.pointer none, .int .i64 2]) ∧ w = w' := by
  go_enter Try.func37, Try.ntmps37
  go_wp2_with (refine (dir_nil w n).mono ?_; rintro e w' ⟨rfl, rfl⟩)
  go_ret2
  exact ⟨rfl, rfl⟩
theorem make_nil (w : World) (n k : Int) (s t : ByteArray) : Calls Try.prog 12 #[.pointer none, .int .u16 n, .string s, .int .u8 k, .string t] w fun e w' => e = .returned (.tuple #[.int .u16 0, .int .i64 2]) ∧ w = w' := by
  go_enter Try.func12, Try.ntmps12
  go_wp2_with (refine (taking_nil w n s).mono ?_; rintro e w' ⟨rfl, rfl⟩)
  go_ret2
  exact ⟨rfl, rfl⟩
theorem add_nil (w : World) (n k : Int) (s : ByteArray) : Calls Try.prog 23 #[.pointer none, .int .u16 n, .string s, .int .u16 k] w fun e w' => e = .returned (.int .i64 2) ∧ w = w' := by
  go_enter Try.func23, Try.ntmps23
  go_wp2_with (refine (get_nil w k).mono ?_; rintro e w' ⟨rfl, rfl⟩)
  go_ret
  exact ⟨rfl, rfl⟩
theorem drop_nil (w : World) (n : Int) (s : ByteArray) (b : Bool) : Calls Try.prog 29 #[.pointer none, .int .u16 n, .string s, .bool b] w fun e w' => e = .returned (.int .i64 2) ∧ w = w' := by
  go_enter Try.func29, Try.ntmps29
  go_wp2_with (refine (look_nil w n s).mono ?_; rintro e w' ⟨rfl, rfl⟩)
  go_ret
  exact ⟨rfl, rfl⟩
theorem move_nil (w : World) (n k : Int) (s t : ByteArray) : Calls Try.prog 20 #[.pointer none, .int .u16 n, .string s, .int .u16 k, .string t] w fun e w' => e = .returned (.int .i64 2) ∧ w = w' := by
  go_enter Try.func20, Try.ntmps20
  go_wp2_with (refine (look_nil w n s).mono ?_; rintro e w' ⟨rfl, rfl⟩)
  go_ret
  exact ⟨rfl, rfl⟩
theorem hold_nil (w : World) (n : Int) (b : Bool) : Calls Try.prog 30 #[.pointer none, .int .u16 n, .bool b] w fun e w' => e = .returned (.int .i64 2) ∧ w = w' := by
  go_enter Try.func30, Try.ntmps30
  go_wp2_with (refine (get_nil w n).mono ?_; rintro e w' ⟨rfl, rfl⟩)
  go_ret
  exact ⟨rfl, rfl⟩
theorem file_nil (w : World) (n k : Int) : Calls Try.prog 61 #[.pointer none, .int .u16 n, .int .i64 k] w fun e w' => e = .returned (.tuple #[.pointer none, .int .i64 2]) ∧ w = w' := by
  go_enter Try.func61, Try.ntmps61
  go_wp2_with (refine (get_nil w n).mono ?_; rintro e w' ⟨rfl, rfl⟩)
  go_ret2
  exact ⟨rfl, rfl⟩
theorem write_nil (w : World) (n k : Int) (A1 : Option Addr) (l c : Nat) : Calls Try.prog 31 #[.pointer none, .int .u16 n, .int .i64 k, .slice A1 l c] w fun e w' => e = .returned (.int .i64 2) ∧ w = w' := by
  go_enter Try.func31, Try.ntmps31
  go_wp2_with (refine (file_nil w n k).mono ?_; rintro e w' ⟨rfl, rfl⟩)
  go_ret
  exact ⟨rfl, rfl⟩
theorem cut_nil (w : World) (n k : Int) : Calls Try.prog 32 #[.pointer none, .int .u16 n, .int .i64 k] w fun e w' => e = .returned (.int .i64 2) ∧ w = w' := by
  go_enter Try.func32, Try.ntmps32
  go_wp2_with (refine (file_nil w n k).mono ?_; rintro e w' ⟨rfl, rfl⟩)
  go_ret
  exact ⟨rfl, rfl⟩
theorem entries_nil (w : World) (n : Int) : Calls Try.prog 14 #[.pointer none, .int .u16 n] w fun e w' => e = .returned (.tuple #[.slice none 0 0, .int .i64 2]) ∧ w = w' := by
  go_enter Try.func14, Try.ntmps14
  go_wp2_with (refine (dir_nil w n).mono ?_; rintro e w' ⟨rfl, rfl⟩)
  go_ret2
  exact ⟨rfl, rfl⟩
theorem numbers_nil (w : World)  : Calls Try.prog 27 #[.pointer none] w fun e w' => e = .returned (.slice none 0 0) ∧ w = w' := by
  go_enter Try.func27, Try.ntmps27
  go_wp2
  go_ret
  exact ⟨rfl, rfl⟩
theorem changes_nil (w : World)  : Calls Try.prog 28 #[.pointer none] w fun e w' => e = .returned (.int .i64 0) ∧ w = w' := by
  go_enter Try.func28, Try.ntmps28
  go_wp2
  go_ret
  exact ⟨rfl, rfl⟩
theorem len_nil (w : World)  : Calls Try.prog 26 #[.pointer none] w fun e w' => e = .returned (.int .i64 0) ∧ w = w' := by
  go_enter Try.func26, Try.ntmps26
  go_wp2_with (refine (numbers_nil w).mono ?_; rintro e w' ⟨rfl, rfl⟩)
  go_ret
  exact ⟨rfl, rfl⟩
/-! The fixed fact: chapter 16's example. -/
def exA : TrM := (makeF (newT 9) 0 1 [97] 1 ⟨#[]⟩).2.2
def exB : TrM := (addF exA 1 [98] 2).2
def exC : TrM := (dropF exB 1 [97] false).2
theorem ex1 : roomE (newT 9) 1 [97] = 0 := by decide
theorem ex2 : (makeF (newT 9) 0 1 [97] 1 ⟨#[]⟩).1 = 2 ∧ (makeF (newT 9) 0 1 [97] 1 ⟨#[]⟩).2.1 = 0 := by decide
theorem ex3 : (addF exA 1 [98] 2).1 = 0 := by decide
theorem ex4 : (dropF exB 1 [97] false).1 = 0 := by decide
theorem ex5 : (exC.nd 2).kd = 1 ∧ (exC.nd 2).links = 1 := by decide
theorem ex6 : exA.ch = 1 ∧ exB.ch = 2 := by decide

end Go.Proofs.Ytdlglllidolggaa.In
