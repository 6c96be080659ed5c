/- The laws' opening fact; a list of instructions laid anew. -/
import Derived.Test.YtnkffjdoillmaaaCheck
import Derived.Test.YtnkffjdoillmaaaChkM
import Derived.Deep.RegionWith
import Derived.BigRegion
namespace Go.Proofs.Ytnkffjdoillmaaa
open Go.RowKit
theorem flat_len (l : List Ins) : (l.flatMap Ins.cells).length = l.length * 4 := by
  induction l with
  | nil => rfl
  | cons i l ih => simp only [List.flatMap_cons, List.length_append, List.length_cons, ih, Ins.cells]; simp; omega
/-- A list laid in a block reads so. -/
theorem lit_rd {w : World} {cs : Array Value} {T : TypeId} (l : List Ins) (h : cs.toList = l.flatMap Ins.cells) : Rd (w.alloc (.cells cs T)) 4 l.length (some ⟨w.heap.size, 0, none⟩) (l.flatMap Ins.cells) := by
  have hb := Bk.new w T cs (l := l.flatMap Ins.cells) (by rw [← h])
  exact (hb.seg (B := 0) (flat_len l) (Nat.zero_le _)).rd
end Go.Proofs.Ytnkffjdoillmaaa

