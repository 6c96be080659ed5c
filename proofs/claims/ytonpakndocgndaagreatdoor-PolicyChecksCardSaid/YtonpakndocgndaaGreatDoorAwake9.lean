/- The opening fact. -/
import Derived.Test.YtonpakndocgndaaGreatDoorPathW
import Derived.Deep.QuietTactic
import Derived.Deep.RegionWith
import Derived.BigQuiet
namespace Go.Proofs.YtonpakndocgndaaGreatDoor
open Go.RowKit
def Same9 (v : Value) (w : World) (e : Ending) (w' : World) : Prop := e = .returned v ∧ w = w'
theorem small_1 (w : World) : Calls Tryz.prog 67 #[.int .i64 1] w (Same9 (.string ⟨#[49]⟩) w) := by
  go_enter Tryz.func67, Tryz.ntmps67
  go_wp2
  go_ret
  exact ⟨rfl, rfl⟩
theorem small_2 (w : World) : Calls Tryz.prog 67 #[.int .i64 2] w (Same9 (.string ⟨#[50]⟩) w) := by
  go_enter Tryz.func67, Tryz.ntmps67
  go_wp2
  go_ret
  exact ⟨rfl, rfl⟩
theorem fmt_1 (w : World) : Calls Tryz.prog 59 #[.int .u64 1, .int .i64 10] w (Same9 (.string ⟨#[49]⟩) w) := by
  go_enter Tryz.func59, Tryz.ntmps59
  go_wp2_with (go_at_call 67; refine (small_1 _).mono ?_; rintro e w' ⟨rfl, rfl⟩)
  go_ret
  exact ⟨rfl, rfl⟩
theorem fmt_2 (w : World) : Calls Tryz.prog 59 #[.int .u64 2, .int .i64 10] w (Same9 (.string ⟨#[50]⟩) w) := by
  go_enter Tryz.func59, Tryz.ntmps59
  go_wp2_with (go_at_call 67; refine (small_2 _).mono ?_; rintro e w' ⟨rfl, rfl⟩)
  go_ret
  exact ⟨rfl, rfl⟩
theorem printed_1 (w : World) : Calls Tryz.prog 33 #[.int .u64 1] w (Same9 (.string ⟨#[49]⟩) w) := by
  go_enter Tryz.func33, Tryz.ntmps33
  go_wp2_with (first | (go_at_call 59; refine (fmt_1 _).mono ?_; rintro e w' ⟨rfl, rfl⟩) | go_in)
  go_ret
  exact ⟨rfl, rfl⟩
theorem printed_2 (w : World) : Calls Tryz.prog 33 #[.int .u64 2] w (Same9 (.string ⟨#[50]⟩) w) := by
  go_enter Tryz.func33, Tryz.ntmps33
  go_wp2_with (first | (go_at_call 59; refine (fmt_2 _).mono ?_; rintro e w' ⟨rfl, rfl⟩) | go_in)
  go_ret
  exact ⟨rfl, rfl⟩
theorem known_7 (w : World) : Calls Tryz.prog 32 #[.int .u8 7] w (Same9 (.bool true) w) := by
  go_enter Tryz.func32, Tryz.ntmps32
  go_wp2
  go_ret
  exact ⟨rfl, rfl⟩
theorem sign_7 (w : World) (hE : w.cell? ⟨0, 7, none⟩ = some (.string ⟨#[38]⟩)) : Calls Tryz.prog 34 #[.int .u8 7] w (Same9 (.string ⟨#[38]⟩) w) := by
  go_enter Tryz.func34, Tryz.ntmps34
  go_wp2_with (go_at_call 32; refine (known_7 _).mono ?_; rintro e w' ⟨rfl, rfl⟩)
  go_ret
  exact ⟨rfl, rfl⟩
set_option maxHeartbeats 1000000 in
set_option maxRecDepth 100000 in
theorem check_awake (w : World) : Calls Tryz.prog 11 #[.agg #[.int .i64 1, .int .u8 7, .int .u64 2, .int .u64 2]] w (fun e w' => e = .returned (.int .i64 0) ∧ Below w.heap.size w w') := by
  go_enter Tryz.func11, Tryz.ntmps11
  go_wp2_with (go_at_call 32; refine (known_7 _).mono ?_; rintro e w' ⟨rfl, rfl⟩)
  go_ret
  exact ⟨rfl, (Below.refl _ _).alloc (Nat.le_refl _) _⟩
set_option maxHeartbeats 1000000 in
set_option maxRecDepth 100000 in
theorem text_awake (w : World) (hE : Env w) : Calls Tryz.prog 14 #[.agg #[.int .i64 1, .int .u8 7, .int .u64 2, .int .u64 2]] w (fun e w' => e = .returned (.string ⟨#[97, 114, 103, 49, 32, 38, 32, 50, 32, 61, 61, 32, 50]⟩) ∧ Below w.heap.size w w') := by
  have HQ := Lib.hid (fun n => cell_below hE.sg (below_drewN ((Below.refl w.heap.size w).alloc (Nat.le_refl _) (.cells #[.int .i64 1, .int .u8 7, .int .u64 2, .int .u64 2] 39)) n))
  clear hE
  go_enter Tryz.func14, Tryz.ntmps14
  go_wp2_with fail
  go_quiet (first | (go_at_call 33; exact quiet_l (printed_1 _)) | (go_at_call 34; exact quiet_l (sign_7 _ (HQ.out _))))
  go_wp2_with (go_at_call 33; refine (printed_2 _).mono ?_; rintro e w' ⟨rfl, rfl⟩)
  go_ret
  exact ⟨by first | rfl | kernel_rfl, below_drewN ((Below.refl _ _).alloc (Nat.le_refl _) _) _⟩
set_option maxHeartbeats 1000000 in
set_option maxRecDepth 100000 in
theorem awake_any (w : World) (hE : Env w) : Calls Tryz.prog 4 #[] w (BoolPost true w) := by
  have HE := Lib.hid hE
  clear hE
  go_enter Tryz.func4, Tryz.ntmps4
  go_wp2_with fail
  refine (check_awake _).mono ?_
  rintro e w1 ⟨rfl, hb1⟩
  have HB1 := Lib.hid (((Below.refl w.heap.size w).alloc (Nat.le_refl _) (.cells #[.int .i64 1, .int .u8 7, .int .u64 2, .int .u64 2] 39)).trans (hb1.mono (by simp)))
  have hbk := (Bk.new w 39 #[.int .i64 1, .int .u8 7, .int .u64 2, .int .u64 2] (l := [.int .i64 1, .int .u8 7, .int .u64 2, .int .u64 2]) rfl).kept hb1
  have hlt := hbk.lt
  have q0 := hbk.cell 0 rfl
  have q1 := hbk.cell 1 rfl
  have q2 := hbk.cell 2 rfl
  have q3 := hbk.cell 3 rfl
  clear hbk hb1
  go_wp2_with fail
  refine (text_awake _ (HE.out.below HB1.out)).mono ?_
  rintro e w2 ⟨rfl, hb2⟩
  have HB2 := Lib.hid (HB1.out.trans (hb2.mono HB1.out.size))
  clear hb2
  go_wp2_with fail
  go_ret
  exact ⟨rfl, HB2.out⟩
end Go.Proofs.YtonpakndocgndaaGreatDoor
