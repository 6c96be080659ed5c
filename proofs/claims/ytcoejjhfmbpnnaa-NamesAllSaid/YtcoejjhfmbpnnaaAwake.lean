/- The fixed fact of chapter 1, and two calls that are the same. -/
import Derived.Test.YtcoejjhfmbpnnaaRefFind
import Derived.Deep.QuietTactic
import Derived.BigQuiet
namespace Go.Proofs.Ytcoejjhfmbpnnaa
open Go.RowKit Go.Maps

theorem byName_open : byName [111, 112, 101, 110] = some (2, [111, 112, 101, 110], 2) := by decide
theorem len_open : (ByteArray.mk #[111, 112, 101, 110]).size ≤ maxLen := by decide

set_option maxRecDepth 100000 in
set_option maxHeartbeats 1000000 in
theorem awake_any (w : World) : Calls Try.prog 8 #[] w fun e w' => e = .returned (.bool true) ∧ Below w.heap.size w w' := by
  go_enter Try.func8, Try.ntmps8
  go_wp2_with fail
  refine (new_any _).mono ?_
  rintro e w1 ⟨rfl, hT, o, hw1⟩
  have hb1 : Below w.heap.size w w1 := by rw [hw1]; exact (Below.refl _ _).alloc (Nat.le_refl _) _
  have Hb1 := Lib.hid hb1
  clear hb1 hw1 o
  have hn := named_any w.heap.size 0 ⟨#[111, 112, 101, 110]⟩ w1 hT (by omega) (by omega) len_open
  go_wp2_with fail
  refine hn.mono ?_
  clear hn hT
  rintro e w2 ⟨rfl, _, hg⟩
  have hb2 := Lib.hid (below_of_grown Hb1.out hg (Nat.le_refl _))
  clear hg
  have hsz : w.heap.size ≤ w2.heap.size := hb2.out.size
  rw [show (byName (ByteArray.mk #[111, 112, 101, 110]).data.toList) = some (2, [111, 112, 101, 110], 2) from byName_open]
  simp only [Option.getD_some, Option.isSome_some, rowV]
  go_wp2
  go_ret
  exact ⟨rfl, (hb2.out.alloc hb2.out.size _)⟩

set_option maxRecDepth 100000 in
set_option maxHeartbeats 1000000 in
theorem same_true (r : Row) (hr : r.1 ≤ 4294967295) (w : World) : Calls Try.prog 12 #[rowV r, refV r] w fun e w' => e = .returned (.bool true) ∧ Below w.heap.size w w' := by
  unfold rowV refV
  have h0 : (0 : Int) ≤ (r.1 : Int) := by omega
  have h1 : (r.1 : Int) ≤ 4294967295 := by omega
  go_enter Try.func12, Try.ntmps12
  go_wp2
  go_ret
  exact ⟨rfl, ((Below.refl _ _).alloc (Nat.le_refl _) _).alloc (by simp) _⟩
end Go.Proofs.Ytcoejjhfmbpnnaa
