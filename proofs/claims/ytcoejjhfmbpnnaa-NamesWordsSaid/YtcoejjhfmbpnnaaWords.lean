/- Any text: both say the same of it. -/
import Derived.Test.YtcoejjhfmbpnnaaAwake
import Derived.Test.YtcoejjhfmbpnnaaRefWord
namespace Go.Proofs.Ytcoejjhfmbpnnaa
open Go.RowKit

set_option maxRecDepth 100000 in
set_option maxHeartbeats 1000000 in
theorem walk_namesWords (s : ByteArray) (w : World) (hs : s.size ≤ maxLen) :
    Calls Try.prog 6 #[.string s] w fun e w' => e = .returned (.bool true) ∧ Below w.heap.size w w' := by
  go_enter Try.func6, Try.ntmps6
  go_wp2_with fail
  refine (awake_any _).mono ?_
  rintro e w1 ⟨rfl, hb⟩
  have Hb := Lib.hid hb
  clear hb
  go_wp2_with fail
  refine (word_any s _ hs).mono ?_
  rintro e w2 ⟨⟨b1, rfl, h1⟩, hb2⟩
  have Hb2 := Lib.hid (Hb.out.trans (hb2.mono Hb.out.size))
  have H1 := Lib.hid h1
  clear hb2 h1 Hb
  go_wp2_with fail
  refine (refWord_any s _ hs).mono ?_
  rintro e w3 ⟨⟨b2, rfl, h2⟩, hb3⟩
  have Hb3 := Lib.hid (Hb2.out.trans (hb3.mono Hb2.out.size))
  obtain rfl : b1 = b2 := by rw [Bool.eq_iff_iff]; exact H1.out.trans h2.symm
  clear hb3 h2 H1 Hb2
  go_wp2
  go_ret
  exact ⟨by simp, Hb3.out⟩
end Go.Proofs.Ytcoejjhfmbpnnaa
