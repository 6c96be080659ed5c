/- Policies of small numbers: their actions, their conditions. -/
import Derived.Test.YtonpakndocgndaaGreatDoorRefB
import Derived.Test.YtonpakndocgndaaGreatDoorRuleW
import Derived.Deep.RegionHeld3
import Derived.Deep.RegionWith
namespace Go.Proofs.YtonpakndocgndaaGreatDoor
open Go.RowKit
theorem fail_any (n : Nat) (w : World) (h : n < 256) : Calls Tryz.prog 35 #[.int .i64 (1 + (n : Int))] w (Same9 (.int .u32 ((327680 + (1 + n) : Nat) : Int)) w) := by
  obtain ⟨m, hm⟩ : ∃ m, m = 1 + n := ⟨_, rfl⟩
  rw [← hm, show (1 : Int) + (n : Int) = (m : Int) by omega]
  have h1 : m ≤ 4095 := by omega
  have h2 : max (m : Int) 0 = (m : Int) := by omega
  have h3 : min (m : Int) 4095 = (m : Int) := by omega
  have h4 : IntKind.u32.wrap (m : Int) = (m : Int) := by rw [IntKind.wrap_u32]; omega
  have h5 := Rec.orErrno m (by omega)
  clear hm h
  go_enter Tryz.func35, Tryz.ntmps35
  go_wp2_with fail
  go_ret
  exact ⟨rfl, rfl⟩
def ActPost (w : World) (e : Ending) (w' : World) : Prop := (∃ a : Nat, e = .returned (.int .u32 a) ∧ actB a = true ∧ a < 4294967296) ∧ w = w'
set_option maxHeartbeats 1000000 in
set_option maxRecDepth 100000 in
theorem action_any (k n : Nat) (w : World) (hk : k < 256) (hn : n < 256) : Calls Tryz.prog 16 #[.int .u8 k, .int .u8 n] w (ActPost w) := by
  have hr : Int.tmod (k : Int) 4 = ((k % 4 : Nat) : Int) := by rw [Int.tmod_eq_emod_of_nonneg (by omega)]; omega
  obtain ⟨q, hq⟩ : ∃ q, q = 327680 + (1 + n) := ⟨_, rfl⟩
  have hf := Lib.hid (fun W => fail_any n W hn)
  have HA := Lib.hid (show actB (327680 + (1 + n)) = true by unfold actB; apply decide_eq_true; omega)
  rw [← hq] at hf HA
  have hq32 : q < 4294967296 := by omega
  clear hq
  obtain ⟨r, hre⟩ : ∃ r, r = k % 4 := ⟨_, rfl⟩
  have hr4 : r < 4 := by omega
  rw [← hre] at hr
  clear hre
  rcases (by omega : r = 0 ∨ r = 1 ∨ r = 2 ∨ r = 3) with rfl | rfl | rfl | rfl
  · go_enter Tryz.func16, Tryz.ntmps16
    go_wp2_with fail
    go_ret
    exact ⟨⟨2147483648, rfl, by decide, by decide⟩, rfl⟩
  · go_enter Tryz.func16, Tryz.ntmps16
    go_wp2_with fail
    refine (hf.out _).mono ?_
    rintro e w' ⟨rfl, rfl⟩
    clear hf
    go_wp2_with fail
    go_ret
    exact ⟨⟨q, rfl, HA.out, hq32⟩, rfl⟩
  · go_enter Tryz.func16, Tryz.ntmps16
    go_wp2_with fail
    go_ret
    exact ⟨⟨2147221504, rfl, by decide, by decide⟩, rfl⟩
  · go_enter Tryz.func16, Tryz.ntmps16
    go_wp2_with fail
    go_ret
    exact ⟨⟨2147418112, rfl, by decide, by decide⟩, rfl⟩
def vals : List Nat := [0, 1, 2, 3, 5, 255, 4294967295, 4294967296, 4294967297, 8589934597, 9223372036854775810, 18446744073709551615]
def u64s (l : List Nat) : List Value := l.map fun (x : Nat) => Value.int .u64 x
theorem u64s_at {l : List Nat} {k x : Nat} (h : l[k]? = some x) : (u64s l)[k]? = some (.int .u64 x) := by simp [u64s, h]
theorem vals_at (x : Nat) (h : x < 12) : ∃ v, vals[x]? = some v ∧ v < 18446744073709551616 ∧ (x ≠ 0 → v ≠ 0) := by
  rcases (by omega : x = 0 ∨ x = 1 ∨ x = 2 ∨ x = 3 ∨ x = 4 ∨ x = 5 ∨ x = 6 ∨ x = 7 ∨ x = 8 ∨ x = 9 ∨ x = 10 ∨ x = 11) with rfl | rfl | rfl | rfl | rfl | rfl | rfl | rfl | rfl | rfl | rfl | rfl <;> exact ⟨_, rfl, by decide, by decide⟩
set_option maxRecDepth 100000 in
theorem values_any (w : World) : Calls Tryz.prog 36 #[] w fun e w' => e = .returned (.slice (some ⟨w.heap.size, 0, none⟩) 12 12) ∧ Bk w' w.heap.size 37 (u64s vals) ∧ Below w.heap.size w w' ∧ w'.heap.size = w.heap.size + 1 := by
  go_enter Tryz.func36, Tryz.ntmps36
  go_wp2_with fail
  go_ret
  exact ⟨rfl, Bk.new w _ _ rfl, oneb w _, by simp⟩
end Go.Proofs.YtonpakndocgndaaGreatDoor
