/-
  No cell of these rows narrows 'for every input' (looked for: loops, veiled, ifaces, maps, wideKeys, modest, calm, conditions, laid).
  DERIVED. THE GIVEN ROWS OF THIS SEAT. 7 by the template 'for every input the law returns true; each argument reads behind the call as it read before'; 0 by the template 'total and deterministic' (their statements: YtnkffjdoillmaaaTotals.lean).
  GIVEN WITH THE SEED: the statements are not yours to turn. If you find one false, say at which input.
  Laid BY PROGRAM, IN A SANDBOX (cutbox-rows.mjs): the forced cells as the released guide's own fill.sh prints them over the translation add066643971df8e… (all of the seat's roots in one cut). By AI agents, Wed Nov 11 2026. No macro, syntax, notation, axiom, sorry.
-/
import Derived.Test.YtnkffjdoillmaaaChecked
import GoSem.Claim
import GoSem.ClaimJoined
import GoSem.ClaimMapViews
import Derived.JoinedTies
import Derived.KernelRfl
namespace Go.Proofs.Ytnkffjdoillmaaa
/- THE CELL 'sum', in the pinned program and in every row, IS THE sha256 OF THE DUMP (.gsa) THAT YtnkffjdoillmaaaProg.lean LOADS. Nothing in Lean hashes anything: it is a label: what it is worth is what the hold of that sum in a sandbox is worth. -/
noncomputable def Try.pinned : Pinned := { name := "ytnkffjdoillmaaa", sum := "add066643971df8e8e347f12e805221cae77a2d7d10355124dfad03073fa90f2", checked := Try.checked }
namespace Rows
def none {H : Type} : Left H := { results := [], args := [] }

/-- 'pinfoldlaw06.VmRuns': WHATEVER THE INPUT: true; the input reads as it did. -/
def vmRunsSpec : ChangeSpec := { name := "vmRuns", fn := fun _ => fun
  | [d1, d2, d3, d4] => { results := [.lit (.bool true)], args := [d1, d2, d3, d4] }
  | _ => none }
def vmRunsRow : OpenClaim := { program := "ytnkffjdoillmaaa", sum := "add066643971df8e8e347f12e805221cae77a2d7d10355124dfad03073fa90f2", func := "pinfold/pinfoldlaw06.VmRuns", spec := "vmRuns", inPlace := ["sync/atomic.AddInt64", "sync/atomic.LoadInt64"], unfollowed := true, recurses := true, apart := false }
def VmRunsSaid : Prop := vmRunsRow.holds Try.pinned (OpenSpec.ofChange vmRunsSpec)

/-- ITS FALSE NEIGHBOUR: 'it returns false'. Refute it at one input. -/
def vmRunsWrong : ChangeSpec := { name := "vmRuns", fn := fun _ => fun
  | [d1, d2, d3, d4] => { results := [.lit (.bool false)], args := [d1, d2, d3, d4] }
  | _ => none }
def VmRunsWrongFalsely : Prop := vmRunsRow.holds Try.pinned (OpenSpec.ofChange vmRunsWrong)

/-- 'pinfoldlaw06.VmReckons': WHATEVER THE INPUT: true; the input reads as it did. -/
def vmReckonsSpec : ChangeSpec := { name := "vmReckons", fn := fun _ => fun
  | [d1, d2, d3] => { results := [.lit (.bool true)], args := [d1, d2, d3] }
  | _ => none }
def vmReckonsRow : OpenClaim := { program := "ytnkffjdoillmaaa", sum := "add066643971df8e8e347f12e805221cae77a2d7d10355124dfad03073fa90f2", func := "pinfold/pinfoldlaw06.VmReckons", spec := "vmReckons", inPlace := ["sync/atomic.AddInt64"], unfollowed := true, recurses := true, apart := false }
def VmReckonsSaid : Prop := vmReckonsRow.holds Try.pinned (OpenSpec.ofChange vmReckonsSpec)

/-- ITS FALSE NEIGHBOUR: 'it returns false'. Refute it at one input. -/
def vmReckonsWrong : ChangeSpec := { name := "vmReckons", fn := fun _ => fun
  | [d1, d2, d3] => { results := [.lit (.bool false)], args := [d1, d2, d3] }
  | _ => none }
def VmReckonsWrongFalsely : Prop := vmReckonsRow.holds Try.pinned (OpenSpec.ofChange vmReckonsWrong)

/-- 'pinfoldlaw06.VmAll': WHATEVER THE INPUT: true; the input reads as it did. -/
def vmAllSpec : ChangeSpec := { name := "vmAll", fn := fun _ => fun
  | [d1, d2] => { results := [.lit (.bool true)], args := [d1, d2] }
  | _ => none }
def vmAllRow : OpenClaim := { program := "ytnkffjdoillmaaa", sum := "add066643971df8e8e347f12e805221cae77a2d7d10355124dfad03073fa90f2", func := "pinfold/pinfoldlaw06.VmAll", spec := "vmAll", inPlace := ["sync/atomic.AddInt64"], unfollowed := true, recurses := true, apart := false }
def VmAllSaid : Prop := vmAllRow.holds Try.pinned (OpenSpec.ofChange vmAllSpec)

/-- ITS FALSE NEIGHBOUR: 'it returns false'. Refute it at one input. -/
def vmAllWrong : ChangeSpec := { name := "vmAll", fn := fun _ => fun
  | [d1, d2] => { results := [.lit (.bool false)], args := [d1, d2] }
  | _ => none }
def VmAllWrongFalsely : Prop := vmAllRow.holds Try.pinned (OpenSpec.ofChange vmAllWrong)

/-- 'pinfoldlaw06.VmNone': WHATEVER THE INPUT: true; the input reads as it did. -/
def vmNoneSpec : ChangeSpec := { name := "vmNone", fn := fun _ => fun
  | [d1, d2, d3] => { results := [.lit (.bool true)], args := [d1, d2, d3] }
  | _ => none }
def vmNoneRow : OpenClaim := { program := "ytnkffjdoillmaaa", sum := "add066643971df8e8e347f12e805221cae77a2d7d10355124dfad03073fa90f2", func := "pinfold/pinfoldlaw06.VmNone", spec := "vmNone", inPlace := ["sync/atomic.AddInt64", "sync/atomic.LoadInt64"], unfollowed := true, recurses := true, apart := false }
def VmNoneSaid : Prop := vmNoneRow.holds Try.pinned (OpenSpec.ofChange vmNoneSpec)

/-- ITS FALSE NEIGHBOUR: 'it returns false'. Refute it at one input. -/
def vmNoneWrong : ChangeSpec := { name := "vmNone", fn := fun _ => fun
  | [d1, d2, d3] => { results := [.lit (.bool false)], args := [d1, d2, d3] }
  | _ => none }
def VmNoneWrongFalsely : Prop := vmNoneRow.holds Try.pinned (OpenSpec.ofChange vmNoneWrong)

/-- 'pinfoldlaw06.VmStrips': WHATEVER THE INPUT: true; the input reads as it did. -/
def vmStripsSpec : ChangeSpec := { name := "vmStrips", fn := fun _ => fun
  | [d1, d2, d3] => { results := [.lit (.bool true)], args := [d1, d2, d3] }
  | _ => none }
def vmStripsRow : OpenClaim := { program := "ytnkffjdoillmaaa", sum := "add066643971df8e8e347f12e805221cae77a2d7d10355124dfad03073fa90f2", func := "pinfold/pinfoldlaw06.VmStrips", spec := "vmStrips", inPlace := ["sync/atomic.AddInt64"], unfollowed := true, recurses := true, apart := false }
def VmStripsSaid : Prop := vmStripsRow.holds Try.pinned (OpenSpec.ofChange vmStripsSpec)

/-- ITS FALSE NEIGHBOUR: 'it returns false'. Refute it at one input. -/
def vmStripsWrong : ChangeSpec := { name := "vmStrips", fn := fun _ => fun
  | [d1, d2, d3] => { results := [.lit (.bool false)], args := [d1, d2, d3] }
  | _ => none }
def VmStripsWrongFalsely : Prop := vmStripsRow.holds Try.pinned (OpenSpec.ofChange vmStripsWrong)

/-- 'pinfoldlaw06.VmScratch': WHATEVER THE INPUT: true; the input reads as it did. -/
def vmScratchSpec : ChangeSpec := { name := "vmScratch", fn := fun _ => fun
  | [d1, d2] => { results := [.lit (.bool true)], args := [d1, d2] }
  | _ => none }
def vmScratchRow : OpenClaim := { program := "ytnkffjdoillmaaa", sum := "add066643971df8e8e347f12e805221cae77a2d7d10355124dfad03073fa90f2", func := "pinfold/pinfoldlaw06.VmScratch", spec := "vmScratch", inPlace := ["sync/atomic.AddInt64"], unfollowed := true, recurses := true, apart := false }
def VmScratchSaid : Prop := vmScratchRow.holds Try.pinned (OpenSpec.ofChange vmScratchSpec)

/-- ITS FALSE NEIGHBOUR: 'it returns false'. Refute it at one input. -/
def vmScratchWrong : ChangeSpec := { name := "vmScratch", fn := fun _ => fun
  | [d1, d2] => { results := [.lit (.bool false)], args := [d1, d2] }
  | _ => none }
def VmScratchWrongFalsely : Prop := vmScratchRow.holds Try.pinned (OpenSpec.ofChange vmScratchWrong)

/-- 'pinfoldlaw06.VmTraces': WHATEVER THE INPUT: true; the input reads as it did. -/
def vmTracesSpec : ChangeSpec := { name := "vmTraces", fn := fun _ => fun
  | [d1, d2] => { results := [.lit (.bool true)], args := [d1, d2] }
  | _ => none }
def vmTracesRow : OpenClaim := { program := "ytnkffjdoillmaaa", sum := "add066643971df8e8e347f12e805221cae77a2d7d10355124dfad03073fa90f2", func := "pinfold/pinfoldlaw06.VmTraces", spec := "vmTraces", inPlace := ["sync/atomic.AddInt64", "sync/atomic.LoadInt64"], unfollowed := true, recurses := true, apart := false }
def VmTracesSaid : Prop := vmTracesRow.holds Try.pinned (OpenSpec.ofChange vmTracesSpec)

/-- ITS FALSE NEIGHBOUR: 'it returns false'. Refute it at one input. -/
def vmTracesWrong : ChangeSpec := { name := "vmTraces", fn := fun _ => fun
  | [d1, d2] => { results := [.lit (.bool false)], args := [d1, d2] }
  | _ => none }
def VmTracesWrongFalsely : Prop := vmTracesRow.holds Try.pinned (OpenSpec.ofChange vmTracesWrong)

/- THE SECOND FORM. 'bulk': how many values and letters a reading holds, each counted each time it is reached (what is shared counts as often as it is met; a slice's spare places count too). A statement '..UptoSaid' is the law's where the arguments, and the package variables that the reading takes, are together of bulk at most 1048576: NARROWER than '..Said'. Prove '..Said' where nothing that the law and all that it calls make is longer than what came in: it says more and counts as full. Else prove '..UptoSaid'. A law counts once. -/
mutual
def uptoBulk {H : Type} : DataW H → Nat
  | .lit (.string bytes) => bytes.length + 1
  | .lit _ => 1
  | .nil => 1
  | .ptr d => uptoBulk d + 1
  | .slice elems spare => uptoBulkAll elems + uptoBulkAll spare + 1
  | .agg parts => uptoBulkAll parts + 1
  | .iface _ d => uptoBulk d + 1
  | .map entries => uptoBulkEntries entries + 1
  | .held _ => 1
def uptoBulkAll {H : Type} : List (DataW H) → Nat
  | [] => 0
  | d :: r => uptoBulk d + uptoBulkAll r
def uptoBulkEntries {H : Type} : List (Lit × DataW H) → Nat
  | [] => 0
  | x :: r => uptoBulkEntry x + uptoBulkEntries r
def uptoBulkEntry {H : Type} : Lit × DataW H → Nat
  | (.string bytes, d) => bytes.length + uptoBulk d + 1
  | (_, d) => uptoBulk d + 1
 end
def uptoSmall : (H : Type) → List (DataW H) → Bool := fun _ ds => decide (uptoBulkAll ds ≤ 1048576)
def OpenSpec.upto (s : _root_.Go.ChangeSpec) : _root_.Go.OpenSpec := { _root_.Go.OpenSpec.ofChange s with cond := some uptoSmall }

/-- 'pinfoldlaw06.VmRuns', WHERE WHAT IT READS IS OF BULK AT MOST 1048576: true; the input reads as it did. -/
def vmRunsUptoRow : OpenClaim := { program := "ytnkffjdoillmaaa", sum := "add066643971df8e8e347f12e805221cae77a2d7d10355124dfad03073fa90f2", func := "pinfold/pinfoldlaw06.VmRuns", spec := "vmRuns", inPlace := ["sync/atomic.AddInt64", "sync/atomic.LoadInt64"], unfollowed := true, recurses := true, apart := false, narrowed := true }
def VmRunsUptoSaid : Prop := vmRunsUptoRow.holds Try.pinned (OpenSpec.upto vmRunsSpec)

/-- 'pinfoldlaw06.VmReckons', WHERE WHAT IT READS IS OF BULK AT MOST 1048576: true; the input reads as it did. -/
def vmReckonsUptoRow : OpenClaim := { program := "ytnkffjdoillmaaa", sum := "add066643971df8e8e347f12e805221cae77a2d7d10355124dfad03073fa90f2", func := "pinfold/pinfoldlaw06.VmReckons", spec := "vmReckons", inPlace := ["sync/atomic.AddInt64"], unfollowed := true, recurses := true, apart := false, narrowed := true }
def VmReckonsUptoSaid : Prop := vmReckonsUptoRow.holds Try.pinned (OpenSpec.upto vmReckonsSpec)

/-- 'pinfoldlaw06.VmAll', WHERE WHAT IT READS IS OF BULK AT MOST 1048576: true; the input reads as it did. -/
def vmAllUptoRow : OpenClaim := { program := "ytnkffjdoillmaaa", sum := "add066643971df8e8e347f12e805221cae77a2d7d10355124dfad03073fa90f2", func := "pinfold/pinfoldlaw06.VmAll", spec := "vmAll", inPlace := ["sync/atomic.AddInt64"], unfollowed := true, recurses := true, apart := false, narrowed := true }
def VmAllUptoSaid : Prop := vmAllUptoRow.holds Try.pinned (OpenSpec.upto vmAllSpec)

/-- 'pinfoldlaw06.VmNone', WHERE WHAT IT READS IS OF BULK AT MOST 1048576: true; the input reads as it did. -/
def vmNoneUptoRow : OpenClaim := { program := "ytnkffjdoillmaaa", sum := "add066643971df8e8e347f12e805221cae77a2d7d10355124dfad03073fa90f2", func := "pinfold/pinfoldlaw06.VmNone", spec := "vmNone", inPlace := ["sync/atomic.AddInt64", "sync/atomic.LoadInt64"], unfollowed := true, recurses := true, apart := false, narrowed := true }
def VmNoneUptoSaid : Prop := vmNoneUptoRow.holds Try.pinned (OpenSpec.upto vmNoneSpec)

/-- 'pinfoldlaw06.VmStrips', WHERE WHAT IT READS IS OF BULK AT MOST 1048576: true; the input reads as it did. -/
def vmStripsUptoRow : OpenClaim := { program := "ytnkffjdoillmaaa", sum := "add066643971df8e8e347f12e805221cae77a2d7d10355124dfad03073fa90f2", func := "pinfold/pinfoldlaw06.VmStrips", spec := "vmStrips", inPlace := ["sync/atomic.AddInt64"], unfollowed := true, recurses := true, apart := false, narrowed := true }
def VmStripsUptoSaid : Prop := vmStripsUptoRow.holds Try.pinned (OpenSpec.upto vmStripsSpec)

/-- 'pinfoldlaw06.VmScratch', WHERE WHAT IT READS IS OF BULK AT MOST 1048576: true; the input reads as it did. -/
def vmScratchUptoRow : OpenClaim := { program := "ytnkffjdoillmaaa", sum := "add066643971df8e8e347f12e805221cae77a2d7d10355124dfad03073fa90f2", func := "pinfold/pinfoldlaw06.VmScratch", spec := "vmScratch", inPlace := ["sync/atomic.AddInt64"], unfollowed := true, recurses := true, apart := false, narrowed := true }
def VmScratchUptoSaid : Prop := vmScratchUptoRow.holds Try.pinned (OpenSpec.upto vmScratchSpec)

/-- 'pinfoldlaw06.VmTraces', WHERE WHAT IT READS IS OF BULK AT MOST 1048576: true; the input reads as it did. -/
def vmTracesUptoRow : OpenClaim := { program := "ytnkffjdoillmaaa", sum := "add066643971df8e8e347f12e805221cae77a2d7d10355124dfad03073fa90f2", func := "pinfold/pinfoldlaw06.VmTraces", spec := "vmTraces", inPlace := ["sync/atomic.AddInt64", "sync/atomic.LoadInt64"], unfollowed := true, recurses := true, apart := false, narrowed := true }
def VmTracesUptoSaid : Prop := vmTracesUptoRow.holds Try.pinned (OpenSpec.upto vmTracesSpec)

end Rows
end Go.Proofs.Ytnkffjdoillmaaa
