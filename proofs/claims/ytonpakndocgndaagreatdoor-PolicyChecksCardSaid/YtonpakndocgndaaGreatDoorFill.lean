/- The table of calls: what it is made from, and how its maps are filled. -/
import Derived.Test.YtonpakndocgndaaGreatDoorSync
import Derived.Maps.OwnSet
import Derived.StillTailTactics
namespace Go.Proofs.YtonpakndocgndaaGreatDoor
open Go.RowKit Go.Maps

/-- The calls there are: number, name, arguments. -/
def rows : List (Nat × List UInt8 × Nat) :=
  [(0, [114, 101, 97, 100], 2), (1, [119, 114, 105, 116, 101], 2), (2, [111, 112, 101, 110], 2), (3, [99, 108, 111, 115, 101], 1),
   (4, [115, 116, 97, 116], 1), (8, [115, 101, 101, 107], 2), (32, [100, 117, 112], 1), (39, [112, 105, 100], 0),
   (41, [115, 111, 99, 107, 101, 116], 0), (42, [99, 111, 110, 110, 101, 99, 116], 2), (49, [98, 105, 110, 100], 2), (50, [108, 105, 115, 116, 101, 110], 1),
   (57, [102, 111, 114, 107], 0), (60, [101, 120, 105, 116], 1), (77, [116, 114, 117, 110, 99, 97, 116, 101], 2), (78, [114, 101, 97, 100, 100, 105, 114], 1),
   (79, [99, 119, 100], 0), (80, [99, 104, 100, 105, 114], 1), (82, [114, 101, 110, 97, 109, 101], 2), (83, [109, 107, 100, 105, 114], 1),
   (84, [114, 109, 100, 105, 114], 1), (86, [108, 105, 110, 107], 2), (87, [117, 110, 108, 105, 110, 107], 1), (88, [115, 121, 109, 108, 105, 110, 107], 2),
   (89, [114, 101, 97, 100, 108, 105, 110, 107], 1), (157, [112, 114, 99, 116, 108], 1), (165, [109, 111, 117, 110, 116], 2), (166, [117, 109, 111, 117, 110, 116], 1),
   (317, [115, 101, 99, 99, 111, 109, 112], 1), (446, [114, 101, 115, 116, 114, 105, 99, 116], 1)]

def rowCells (r : Nat × List UInt8 × Nat) : List Value := [.int .u32 r.1, .string ⟨r.2.1.toArray⟩, .int .i64 r.2.2]
def tableCells : Array Value := (rows.flatMap rowCells).toArray

set_option maxRecDepth 100000 in
set_option maxHeartbeats 1000000 in
theorem calls_any (w : World) : Calls Tryz.prog 73 #[] w fun e w' =>
    e = .returned (.slice (some ⟨w.heap.size, 0, none⟩) 30 30) ∧ w' = w.alloc (.cells tableCells 123) := by
  go_enter Tryz.func73, Tryz.ntmps73
  go_wp2
  go_ret
  exact ⟨by kernel_rfl, by kernel_rfl⟩
end Go.Proofs.YtonpakndocgndaaGreatDoor

