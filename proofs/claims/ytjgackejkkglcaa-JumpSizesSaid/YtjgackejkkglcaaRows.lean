/-
  No cell of these rows narrows 'for every input' (looked for: loops, veiled, ifaces, maps, wideKeys, modest, calm, conditions, laid).
  DERIVED. THE GIVEN ROWS OF THIS SEAT. 5 by the template 'for every input the law returns true; each argument reads behind the call as it read before'; 0 by the template 'total and deterministic' (their statements: YtjgackejkkglcaaTotals.lean).
  GIVEN WITH THE SEED: the statements are not yours to turn. If you find one false, say at which input.
  Laid BY PROGRAM, IN A SANDBOX (cutbox-rows.mjs): the forced cells as the released guide's own fill.sh prints them over the translation d483b30f181beb9e… (all of the seat's roots in one cut). By AI agents, Wed Nov 11 2026. No macro, syntax, notation, axiom, sorry.
-/
import Derived.Test.YtjgackejkkglcaaChecked
import GoSem.Claim
import GoSem.ClaimJoined
import GoSem.ClaimMapViews
import Derived.JoinedTies
import Derived.KernelRfl
namespace Go.Proofs.Ytjgackejkkglcaa
/- THE CELL 'sum', in the pinned program and in every row, IS THE sha256 OF THE DUMP (.gsa) THAT YtjgackejkkglcaaProg.lean LOADS. Nothing in Lean hashes anything: it is a label: what it is worth is what the hold of that sum in a sandbox is worth. -/
noncomputable def Try.pinned : Pinned := { name := "ytjgackejkkglcaa", sum := "d483b30f181beb9e59e17e093a845b03938d4771709bba3de8cc6478aefc75af", checked := Try.checked }
namespace Rows
def none {H : Type} : Left H := { results := [], args := [] }

/-- 'pinfoldlaw13.JumpMakes': WHATEVER THE INPUT: true; the input reads as it did. -/
def jumpMakesSpec : ChangeSpec := { name := "jumpMakes", fn := fun _ => fun
  | [d1, d2, d3] => { results := [.lit (.bool true)], args := [d1, d2, d3] }
  | _ => none }
def jumpMakesRow : OpenClaim := { program := "ytjgackejkkglcaa", sum := "d483b30f181beb9e59e17e093a845b03938d4771709bba3de8cc6478aefc75af", func := "pinfold/pinfoldlaw13.JumpMakes", spec := "jumpMakes", inPlace := ["sync/atomic.AddInt64"], unfollowed := true, recurses := true, apart := false }
def JumpMakesSaid : Prop := jumpMakesRow.holds Try.pinned (OpenSpec.ofChange jumpMakesSpec)

/-- ITS FALSE NEIGHBOUR: 'it returns false'. Refute it at one input. -/
def jumpMakesWrong : ChangeSpec := { name := "jumpMakes", fn := fun _ => fun
  | [d1, d2, d3] => { results := [.lit (.bool false)], args := [d1, d2, d3] }
  | _ => none }
def JumpMakesWrongFalsely : Prop := jumpMakesRow.holds Try.pinned (OpenSpec.ofChange jumpMakesWrong)

/-- 'pinfoldlaw13.JumpSizes': WHATEVER THE INPUT: true; the input reads as it did. -/
def jumpSizesSpec : ChangeSpec := { name := "jumpSizes", fn := fun _ => fun
  | [d1, d2, d3] => { results := [.lit (.bool true)], args := [d1, d2, d3] }
  | _ => none }
def jumpSizesRow : OpenClaim := { program := "ytjgackejkkglcaa", sum := "d483b30f181beb9e59e17e093a845b03938d4771709bba3de8cc6478aefc75af", func := "pinfold/pinfoldlaw13.JumpSizes", spec := "jumpSizes", inPlace := ["sync/atomic.AddInt64"], unfollowed := true, recurses := true, apart := false }
def JumpSizesSaid : Prop := jumpSizesRow.holds Try.pinned (OpenSpec.ofChange jumpSizesSpec)

/-- ITS FALSE NEIGHBOUR: 'it returns false'. Refute it at one input. -/
def jumpSizesWrong : ChangeSpec := { name := "jumpSizes", fn := fun _ => fun
  | [d1, d2, d3] => { results := [.lit (.bool false)], args := [d1, d2, d3] }
  | _ => none }
def JumpSizesWrongFalsely : Prop := jumpSizesRow.holds Try.pinned (OpenSpec.ofChange jumpSizesWrong)

/-- 'pinfoldlaw13.JumpTidies': WHATEVER THE INPUT: true; the input reads as it did. -/
def jumpTidiesSpec : ChangeSpec := { name := "jumpTidies", fn := fun _ => fun
  | [d1, d2] => { results := [.lit (.bool true)], args := [d1, d2] }
  | _ => none }
def jumpTidiesRow : OpenClaim := { program := "ytjgackejkkglcaa", sum := "d483b30f181beb9e59e17e093a845b03938d4771709bba3de8cc6478aefc75af", func := "pinfold/pinfoldlaw13.JumpTidies", spec := "jumpTidies", unfollowed := true, recurses := true, apart := false }
def JumpTidiesSaid : Prop := jumpTidiesRow.holds Try.pinned (OpenSpec.ofChange jumpTidiesSpec)

/-- ITS FALSE NEIGHBOUR: 'it returns false'. Refute it at one input. -/
def jumpTidiesWrong : ChangeSpec := { name := "jumpTidies", fn := fun _ => fun
  | [d1, d2] => { results := [.lit (.bool false)], args := [d1, d2] }
  | _ => none }
def JumpTidiesWrongFalsely : Prop := jumpTidiesRow.holds Try.pinned (OpenSpec.ofChange jumpTidiesWrong)

/-- 'pinfoldlaw13.JumpErrors': WHATEVER THE INPUT: true; the input reads as it did. -/
def jumpErrorsSpec : ChangeSpec := { name := "jumpErrors", fn := fun _ => fun
  | [d1, d2, d3, d4] => { results := [.lit (.bool true)], args := [d1, d2, d3, d4] }
  | _ => none }
def jumpErrorsRow : OpenClaim := { program := "ytjgackejkkglcaa", sum := "d483b30f181beb9e59e17e093a845b03938d4771709bba3de8cc6478aefc75af", func := "pinfold/pinfoldlaw13.JumpErrors", spec := "jumpErrors", unfollowed := true, recurses := true, apart := false }
def JumpErrorsSaid : Prop := jumpErrorsRow.holds Try.pinned (OpenSpec.ofChange jumpErrorsSpec)

/-- ITS FALSE NEIGHBOUR: 'it returns false'. Refute it at one input. -/
def jumpErrorsWrong : ChangeSpec := { name := "jumpErrors", fn := fun _ => fun
  | [d1, d2, d3, d4] => { results := [.lit (.bool false)], args := [d1, d2, d3, d4] }
  | _ => none }
def JumpErrorsWrongFalsely : Prop := jumpErrorsRow.holds Try.pinned (OpenSpec.ofChange jumpErrorsWrong)

/-- 'pinfoldlaw13.JumpNames': WHATEVER THE INPUT: true; the input reads as it did. -/
def jumpNamesSpec : ChangeSpec := { name := "jumpNames", fn := fun _ => fun
  | [d1, d2, d3] => { results := [.lit (.bool true)], args := [d1, d2, d3] }
  | _ => none }
def jumpNamesRow : OpenClaim := { program := "ytjgackejkkglcaa", sum := "d483b30f181beb9e59e17e093a845b03938d4771709bba3de8cc6478aefc75af", func := "pinfold/pinfoldlaw13.JumpNames", spec := "jumpNames", unfollowed := true, recurses := true, apart := false }
def JumpNamesSaid : Prop := jumpNamesRow.holds Try.pinned (OpenSpec.ofChange jumpNamesSpec)

/-- ITS FALSE NEIGHBOUR: 'it returns false'. Refute it at one input. -/
def jumpNamesWrong : ChangeSpec := { name := "jumpNames", fn := fun _ => fun
  | [d1, d2, d3] => { results := [.lit (.bool false)], args := [d1, d2, d3] }
  | _ => none }
def JumpNamesWrongFalsely : Prop := jumpNamesRow.holds Try.pinned (OpenSpec.ofChange jumpNamesWrong)

/- THE SECOND FORM. 'bulk': how many values and letters a reading holds, each counted each time it is reached (what is shared counts as often as it is met; a slice's spare places count too). A statement '..UptoSaid' is the law's where the arguments, and the package variables that the reading takes, are together of bulk at most 1048576: NARROWER than '..Said'. Prove '..Said' where nothing that the law and all that it calls make is longer than what came in: it says more and counts as full. Else prove '..UptoSaid'. A law counts once. -/
mutual
def uptoBulk {H : Type} : DataW H → Nat
  | .lit (.string bytes) => bytes.length + 1
  | .lit _ => 1
  | .nil => 1
  | .ptr d => uptoBulk d + 1
  | .slice elems spare => uptoBulkAll elems + uptoBulkAll spare + 1
  | .agg parts => uptoBulkAll parts + 1
  | .iface _ d => uptoBulk d + 1
  | .map entries => uptoBulkEntries entries + 1
  | .held _ => 1
def uptoBulkAll {H : Type} : List (DataW H) → Nat
  | [] => 0
  | d :: r => uptoBulk d + uptoBulkAll r
def uptoBulkEntries {H : Type} : List (Lit × DataW H) → Nat
  | [] => 0
  | x :: r => uptoBulkEntry x + uptoBulkEntries r
def uptoBulkEntry {H : Type} : Lit × DataW H → Nat
  | (.string bytes, d) => bytes.length + uptoBulk d + 1
  | (_, d) => uptoBulk d + 1
 end
def uptoSmall : (H : Type) → List (DataW H) → Bool := fun _ ds => decide (uptoBulkAll ds ≤ 1048576)
def OpenSpec.upto (s : _root_.Go.ChangeSpec) : _root_.Go.OpenSpec := { _root_.Go.OpenSpec.ofChange s with cond := some uptoSmall }

/-- 'pinfoldlaw13.JumpMakes', WHERE WHAT IT READS IS OF BULK AT MOST 1048576: true; the input reads as it did. -/
def jumpMakesUptoRow : OpenClaim := { program := "ytjgackejkkglcaa", sum := "d483b30f181beb9e59e17e093a845b03938d4771709bba3de8cc6478aefc75af", func := "pinfold/pinfoldlaw13.JumpMakes", spec := "jumpMakes", inPlace := ["sync/atomic.AddInt64"], unfollowed := true, recurses := true, apart := false, narrowed := true }
def JumpMakesUptoSaid : Prop := jumpMakesUptoRow.holds Try.pinned (OpenSpec.upto jumpMakesSpec)

/-- 'pinfoldlaw13.JumpSizes', WHERE WHAT IT READS IS OF BULK AT MOST 1048576: true; the input reads as it did. -/
def jumpSizesUptoRow : OpenClaim := { program := "ytjgackejkkglcaa", sum := "d483b30f181beb9e59e17e093a845b03938d4771709bba3de8cc6478aefc75af", func := "pinfold/pinfoldlaw13.JumpSizes", spec := "jumpSizes", inPlace := ["sync/atomic.AddInt64"], unfollowed := true, recurses := true, apart := false, narrowed := true }
def JumpSizesUptoSaid : Prop := jumpSizesUptoRow.holds Try.pinned (OpenSpec.upto jumpSizesSpec)

/-- 'pinfoldlaw13.JumpTidies', WHERE WHAT IT READS IS OF BULK AT MOST 1048576: true; the input reads as it did. -/
def jumpTidiesUptoRow : OpenClaim := { program := "ytjgackejkkglcaa", sum := "d483b30f181beb9e59e17e093a845b03938d4771709bba3de8cc6478aefc75af", func := "pinfold/pinfoldlaw13.JumpTidies", spec := "jumpTidies", unfollowed := true, recurses := true, apart := false, narrowed := true }
def JumpTidiesUptoSaid : Prop := jumpTidiesUptoRow.holds Try.pinned (OpenSpec.upto jumpTidiesSpec)

/-- 'pinfoldlaw13.JumpErrors', WHERE WHAT IT READS IS OF BULK AT MOST 1048576: true; the input reads as it did. -/
def jumpErrorsUptoRow : OpenClaim := { program := "ytjgackejkkglcaa", sum := "d483b30f181beb9e59e17e093a845b03938d4771709bba3de8cc6478aefc75af", func := "pinfold/pinfoldlaw13.JumpErrors", spec := "jumpErrors", unfollowed := true, recurses := true, apart := false, narrowed := true }
def JumpErrorsUptoSaid : Prop := jumpErrorsUptoRow.holds Try.pinned (OpenSpec.upto jumpErrorsSpec)

/-- 'pinfoldlaw13.JumpNames', WHERE WHAT IT READS IS OF BULK AT MOST 1048576: true; the input reads as it did. -/
def jumpNamesUptoRow : OpenClaim := { program := "ytjgackejkkglcaa", sum := "d483b30f181beb9e59e17e093a845b03938d4771709bba3de8cc6478aefc75af", func := "pinfold/pinfoldlaw13.JumpNames", spec := "jumpNames", unfollowed := true, recurses := true, apart := false, narrowed := true }
def JumpNamesUptoSaid : Prop := jumpNamesUptoRow.holds Try.pinned (OpenSpec.upto jumpNamesSpec)

end Rows
end Go.Proofs.Ytjgackejkkglcaa
