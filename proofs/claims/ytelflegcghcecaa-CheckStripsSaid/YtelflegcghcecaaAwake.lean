/- The laws' opening fact; a list of instructions laid anew. -/
import Derived.Test.YtelflegcghcecaaCheck
import Derived.Test.YtelflegcghcecaaChkM
import Derived.Deep.RegionWith
import Derived.BigRegion
namespace Go.Proofs.Ytelflegcghcecaa
open Go.RowKit
theorem flat_len (l : List Ins) : (l.flatMap Ins.cells).length = l.length * 4 := by
  induction l with
  | nil => rfl
  | cons i l ih => simp only [List.flatMap_cons, List.length_append, List.length_cons, ih, Ins.cells]; simp; omega
/-- A list laid in a block reads so. -/
theorem lit_rd {w : World} {cs : Array Value} {T : TypeId} (l : List Ins) (h : cs.toList = l.flatMap Ins.cells) : Rd (w.alloc (.cells cs T)) 4 l.length (some ⟨w.heap.size, 0, none⟩) (l.flatMap Ins.cells) := by
  have hb := Bk.new w T cs (l := l.flatMap Ins.cells) (by rw [← h])
  exact (hb.seg (B := 0) (flat_len l) (Nat.zero_le _)).rd
set_option maxRecDepth 100000 in
set_option maxHeartbeats 1000000 in
theorem awake_any (w : World) : Calls Try.prog 7 #[] w (Yes w) := by
  go_enter Try.func7, Try.ntmps7
  go_wp2_with fail
  refine (return_of _ _).mono ?_
  rintro e w1 ⟨rfl, hb1⟩
  have Hb1 := Lib.hid hb1
  clear hb1
  go_wp2_with fail
  refine (check_any [ret 7] 1 _ _ _ rfl (by simp [ret, Ins.ok]) (lit_rd [ret 7] rfl) (by unfold maxLen; omega)).mono ?_
  rintro e w2 ⟨a, er, rfl, hc, hb2⟩
  obtain ⟨rfl, rfl⟩ := hc.of_good (ret_good 7)
  have Hb2 := Lib.hid ((Hb1.out.alloc Hb1.out.size _).trans (hb2.mono (Nat.le_trans Hb1.out.size (by simp))))
  clear hb2 hc
  go_wp2_with fail
  refine (load_of _ _).mono ?_
  rintro e w3 ⟨rfl, hb3⟩
  have Hb3 := Lib.hid (Hb2.out.trans (hb3.mono Hb2.out.size))
  clear hb3
  go_wp2_with fail
  refine (check_any [⟨32, 0, 0, 0⟩] 1 _ _ _ rfl (by simp [Ins.ok]) (lit_rd [⟨32, 0, 0, 0⟩] rfl) (by unfold maxLen; omega)).mono ?_
  rintro e w4 ⟨a, er, rfl, hc, hb4⟩
  obtain ⟨rfl, rfl⟩ := load_chk hc
  have Hb4 := Lib.hid ((Hb3.out.alloc Hb3.out.size _).trans (hb4.mono (Nat.le_trans Hb3.out.size (by simp))))
  clear hb4 hc
  go_wp2_with fail
  go_ret
  exact ⟨rfl, Hb4.out⟩
end Go.Proofs.Ytelflegcghcecaa
