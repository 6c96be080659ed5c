/- A nil table answers nothing. -/
import Derived.Test.YtcoejjhfmbpnnaaAwake
import Derived.Deep.RegionWith
namespace Go.Proofs.Ytcoejjhfmbpnnaa
open Go.RowKit

set_option maxRecDepth 100000 in
set_option maxHeartbeats 1000000 in
theorem walk_namesNone (s : ByteArray) (n : Int) (w : World) (_ : s.size ≤ maxLen) (_ : (Lit.int .u32 n).wf = true) :
    Calls Try.prog 7 #[.string s, .int .u32 n] w fun e w' => e = .returned (.bool true) ∧ Below w.heap.size w w' := by
  go_enter Try.func7, Try.ntmps7
  go_wp2_with fail
  refine (awake_any _).mono ?_
  rintro e w1 ⟨rfl, hb⟩
  have Hb := Lib.hid hb
  clear hb
  go_wp2_with fail
  refine (named_nil _ _).mono ?_
  rintro e w2 ⟨rfl, rfl⟩
  unfold rowV zeroRow
  go_wp2_with fail
  refine (numbered_nil _ _).mono ?_
  rintro e w3 ⟨rfl, rfl⟩
  unfold rowV zeroRow
  go_wp2_with fail
  refine (counts_nil _).mono ?_
  rintro e w4 ⟨rfl, rfl⟩
  go_wp2_with fail
  refine (all_nil _).mono ?_
  rintro e w5 ⟨rfl, rfl⟩
  go_wp2
  go_ret
  have := Hb.out.size
  exact ⟨rfl, ((((Hb.out.alloc this _).alloc (by simp; omega) _).alloc (by simp; omega) _).alloc (by simp; omega) _)⟩
end Go.Proofs.Ytcoejjhfmbpnnaa
