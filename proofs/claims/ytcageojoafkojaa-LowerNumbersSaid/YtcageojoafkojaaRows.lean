/-
  No cell of these rows narrows 'for every input' (looked for: loops, veiled, ifaces, maps, wideKeys, modest, calm, conditions, laid).
  DERIVED. THE GIVEN ROWS OF THIS SEAT. 4 by the template 'for every input the law returns true; each argument reads behind the call as it read before'; 0 by the template 'total and deterministic' (their statements: YtcageojoafkojaaTotals.lean).
  GIVEN WITH THE SEED: the statements are not yours to turn. If you find one false, say at which input.
  Laid BY PROGRAM, IN A SANDBOX (cutbox-rows.mjs): the forced cells as the released guide's own fill.sh prints them over the translation 9b0019e16e27113d… (all of the seat's roots in one cut). By AI agents, Wed Nov 11 2026. No macro, syntax, notation, axiom, sorry.
-/
import Derived.Test.YtcageojoafkojaaChecked
import GoSem.Claim
import GoSem.ClaimJoined
import GoSem.ClaimMapViews
import Derived.JoinedTies
import Derived.KernelRfl
namespace Go.Proofs.Ytcageojoafkojaa
/- THE CELL 'sum', in the pinned program and in every row, IS THE sha256 OF THE DUMP (.gsa) THAT YtcageojoafkojaaProg.lean LOADS. Nothing in Lean hashes anything: it is a label: what it is worth is what the hold of that sum in a sandbox is worth. -/
noncomputable def Try.pinned : Pinned := { name := "ytcageojoafkojaa", sum := "9b0019e16e27113df514888730e4e3323d3d8092ee7bc4bd3ae30f43c374b723", checked := Try.checked }
namespace Rows
def none {H : Type} : Left H := { results := [], args := [] }

/-- 'pinfoldlaw12.IrPlans': WHATEVER THE INPUT: true; the input reads as it did. -/
def irPlansSpec : ChangeSpec := { name := "irPlans", fn := fun _ => fun
  | [d1, d2] => { results := [.lit (.bool true)], args := [d1, d2] }
  | _ => none }
def irPlansRow : OpenClaim := { program := "ytcageojoafkojaa", sum := "9b0019e16e27113df514888730e4e3323d3d8092ee7bc4bd3ae30f43c374b723", func := "pinfold/pinfoldlaw12.IrPlans", spec := "irPlans", unfollowed := true, recurses := true, plainKeys := false, apart := false }
def IrPlansSaid : Prop := irPlansRow.holds Try.pinned (OpenSpec.ofChange irPlansSpec)

/-- ITS FALSE NEIGHBOUR: 'it returns false'. Refute it at one input. -/
def irPlansWrong : ChangeSpec := { name := "irPlans", fn := fun _ => fun
  | [d1, d2] => { results := [.lit (.bool false)], args := [d1, d2] }
  | _ => none }
def IrPlansWrongFalsely : Prop := irPlansRow.holds Try.pinned (OpenSpec.ofChange irPlansWrong)

/-- 'pinfoldlaw12.IrAgain': WHATEVER THE INPUT: true; the input reads as it did. -/
def irAgainSpec : ChangeSpec := { name := "irAgain", fn := fun _ => fun
  | [d1, d2] => { results := [.lit (.bool true)], args := [d1, d2] }
  | _ => none }
def irAgainRow : OpenClaim := { program := "ytcageojoafkojaa", sum := "9b0019e16e27113df514888730e4e3323d3d8092ee7bc4bd3ae30f43c374b723", func := "pinfold/pinfoldlaw12.IrAgain", spec := "irAgain", unfollowed := true, recurses := true, plainKeys := false, apart := false }
def IrAgainSaid : Prop := irAgainRow.holds Try.pinned (OpenSpec.ofChange irAgainSpec)

/-- ITS FALSE NEIGHBOUR: 'it returns false'. Refute it at one input. -/
def irAgainWrong : ChangeSpec := { name := "irAgain", fn := fun _ => fun
  | [d1, d2] => { results := [.lit (.bool false)], args := [d1, d2] }
  | _ => none }
def IrAgainWrongFalsely : Prop := irAgainRow.holds Try.pinned (OpenSpec.ofChange irAgainWrong)

/-- 'pinfoldlaw13.JumpMakes': WHATEVER THE INPUT: true; the input reads as it did. -/
def jumpMakesSpec : ChangeSpec := { name := "jumpMakes", fn := fun _ => fun
  | [d1, d2, d3] => { results := [.lit (.bool true)], args := [d1, d2, d3] }
  | _ => none }
def jumpMakesRow : OpenClaim := { program := "ytcageojoafkojaa", sum := "9b0019e16e27113df514888730e4e3323d3d8092ee7bc4bd3ae30f43c374b723", func := "pinfold/pinfoldlaw13.JumpMakes", spec := "jumpMakes", inPlace := ["sync/atomic.AddInt64"], unfollowed := true, recurses := true, plainKeys := false, apart := false }
def JumpMakesSaid : Prop := jumpMakesRow.holds Try.pinned (OpenSpec.ofChange jumpMakesSpec)

/-- ITS FALSE NEIGHBOUR: 'it returns false'. Refute it at one input. -/
def jumpMakesWrong : ChangeSpec := { name := "jumpMakes", fn := fun _ => fun
  | [d1, d2, d3] => { results := [.lit (.bool false)], args := [d1, d2, d3] }
  | _ => none }
def JumpMakesWrongFalsely : Prop := jumpMakesRow.holds Try.pinned (OpenSpec.ofChange jumpMakesWrong)

/-- 'pinfoldlaw14.LowerNumbers': WHATEVER THE INPUT: true; the input reads as it did. -/
def lowerNumbersSpec : ChangeSpec := { name := "lowerNumbers", fn := fun _ => fun
  | [d1, d2] => { results := [.lit (.bool true)], args := [d1, d2] }
  | _ => none }
def lowerNumbersRow : OpenClaim := { program := "ytcageojoafkojaa", sum := "9b0019e16e27113df514888730e4e3323d3d8092ee7bc4bd3ae30f43c374b723", func := "pinfold/pinfoldlaw14.LowerNumbers", spec := "lowerNumbers", inPlace := ["sync/atomic.AddInt64"], unfollowed := true, recurses := true, plainKeys := false, apart := false }
def LowerNumbersSaid : Prop := lowerNumbersRow.holds Try.pinned (OpenSpec.ofChange lowerNumbersSpec)

/-- ITS FALSE NEIGHBOUR: 'it returns false'. Refute it at one input. -/
def lowerNumbersWrong : ChangeSpec := { name := "lowerNumbers", fn := fun _ => fun
  | [d1, d2] => { results := [.lit (.bool false)], args := [d1, d2] }
  | _ => none }
def LowerNumbersWrongFalsely : Prop := lowerNumbersRow.holds Try.pinned (OpenSpec.ofChange lowerNumbersWrong)

/- THE SECOND FORM. 'bulk': how many values and letters a reading holds, each counted each time it is reached (what is shared counts as often as it is met; a slice's spare places count too). A statement '..UptoSaid' is the law's where the arguments, and the package variables that the reading takes, are together of bulk at most 1048576: NARROWER than '..Said'. Prove '..Said' where nothing that the law and all that it calls make is longer than what came in: it says more and counts as full. Else prove '..UptoSaid'. A law counts once. -/
mutual
def uptoBulk {H : Type} : DataW H → Nat
  | .lit (.string bytes) => bytes.length + 1
  | .lit _ => 1
  | .nil => 1
  | .ptr d => uptoBulk d + 1
  | .slice elems spare => uptoBulkAll elems + uptoBulkAll spare + 1
  | .agg parts => uptoBulkAll parts + 1
  | .iface _ d => uptoBulk d + 1
  | .map entries => uptoBulkEntries entries + 1
  | .held _ => 1
def uptoBulkAll {H : Type} : List (DataW H) → Nat
  | [] => 0
  | d :: r => uptoBulk d + uptoBulkAll r
def uptoBulkEntries {H : Type} : List (Lit × DataW H) → Nat
  | [] => 0
  | x :: r => uptoBulkEntry x + uptoBulkEntries r
def uptoBulkEntry {H : Type} : Lit × DataW H → Nat
  | (.string bytes, d) => bytes.length + uptoBulk d + 1
  | (_, d) => uptoBulk d + 1
 end
def uptoSmall : (H : Type) → List (DataW H) → Bool := fun _ ds => decide (uptoBulkAll ds ≤ 1048576)
def OpenSpec.upto (s : _root_.Go.ChangeSpec) : _root_.Go.OpenSpec := { _root_.Go.OpenSpec.ofChange s with cond := some uptoSmall }

/-- 'pinfoldlaw12.IrPlans', WHERE WHAT IT READS IS OF BULK AT MOST 1048576: true; the input reads as it did. -/
def irPlansUptoRow : OpenClaim := { program := "ytcageojoafkojaa", sum := "9b0019e16e27113df514888730e4e3323d3d8092ee7bc4bd3ae30f43c374b723", func := "pinfold/pinfoldlaw12.IrPlans", spec := "irPlans", unfollowed := true, recurses := true, plainKeys := false, apart := false, narrowed := true }
def IrPlansUptoSaid : Prop := irPlansUptoRow.holds Try.pinned (OpenSpec.upto irPlansSpec)

/-- 'pinfoldlaw12.IrAgain', WHERE WHAT IT READS IS OF BULK AT MOST 1048576: true; the input reads as it did. -/
def irAgainUptoRow : OpenClaim := { program := "ytcageojoafkojaa", sum := "9b0019e16e27113df514888730e4e3323d3d8092ee7bc4bd3ae30f43c374b723", func := "pinfold/pinfoldlaw12.IrAgain", spec := "irAgain", unfollowed := true, recurses := true, plainKeys := false, apart := false, narrowed := true }
def IrAgainUptoSaid : Prop := irAgainUptoRow.holds Try.pinned (OpenSpec.upto irAgainSpec)

/-- 'pinfoldlaw13.JumpMakes', WHERE WHAT IT READS IS OF BULK AT MOST 1048576: true; the input reads as it did. -/
def jumpMakesUptoRow : OpenClaim := { program := "ytcageojoafkojaa", sum := "9b0019e16e27113df514888730e4e3323d3d8092ee7bc4bd3ae30f43c374b723", func := "pinfold/pinfoldlaw13.JumpMakes", spec := "jumpMakes", inPlace := ["sync/atomic.AddInt64"], unfollowed := true, recurses := true, plainKeys := false, apart := false, narrowed := true }
def JumpMakesUptoSaid : Prop := jumpMakesUptoRow.holds Try.pinned (OpenSpec.upto jumpMakesSpec)

/-- 'pinfoldlaw14.LowerNumbers', WHERE WHAT IT READS IS OF BULK AT MOST 1048576: true; the input reads as it did. -/
def lowerNumbersUptoRow : OpenClaim := { program := "ytcageojoafkojaa", sum := "9b0019e16e27113df514888730e4e3323d3d8092ee7bc4bd3ae30f43c374b723", func := "pinfold/pinfoldlaw14.LowerNumbers", spec := "lowerNumbers", inPlace := ["sync/atomic.AddInt64"], unfollowed := true, recurses := true, plainKeys := false, apart := false, narrowed := true }
def LowerNumbersUptoSaid : Prop := lowerNumbersUptoRow.holds Try.pinned (OpenSpec.upto lowerNumbersSpec)

end Rows
end Go.Proofs.Ytcageojoafkojaa
