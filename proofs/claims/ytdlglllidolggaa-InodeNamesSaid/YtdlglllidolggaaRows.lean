/-
  No cell of these rows narrows 'for every input' (looked for: loops, veiled, ifaces, maps, wideKeys, modest, calm, conditions, laid).
  DERIVED. THE GIVEN ROWS OF THIS SEAT. 6 by the template 'for every input the law returns true; each argument reads behind the call as it read before'; 0 by the template 'total and deterministic' (their statements: YtdlglllidolggaaTotals.lean).
  GIVEN WITH THE SEED: the statements are not yours to turn. If you find one false, say at which input.
  Laid BY PROGRAM, IN A SANDBOX (cutbox-rows.mjs): the forced cells as the released guide's own fill.sh prints them over the translation b711dbb99f06dd30… (all of the seat's roots in one cut). By AI agents, Wed Nov 11 2026. No macro, syntax, notation, axiom, sorry.
-/
import Derived.Test.YtdlglllidolggaaChecked
import GoSem.Claim
import GoSem.ClaimJoined
import GoSem.ClaimMapViews
import Derived.JoinedTies
import Derived.KernelRfl
namespace Go.Proofs.Ytdlglllidolggaa
/- THE CELL 'sum', in the pinned program and in every row, IS THE sha256 OF THE DUMP (.gsa) THAT YtdlglllidolggaaProg.lean LOADS. Nothing in Lean hashes anything: it is a label: what it is worth is what the hold of that sum in a sandbox is worth. -/
noncomputable def Try.pinned : Pinned := { name := "ytdlglllidolggaa", sum := "b711dbb99f06dd305f1716f795c570e32b80e260297ca71fdbc11b5262e82326", checked := Try.checked }
namespace Rows
def none {H : Type} : Left H := { results := [], args := [] }

/-- 'pinfoldlaw16.InodeNames': WHATEVER THE INPUT: true; the input reads as it did. -/
def inodeNamesSpec : ChangeSpec := { name := "inodeNames", fn := fun _ => fun
  | [d1, d2] => { results := [.lit (.bool true)], args := [d1, d2] }
  | _ => none }
def inodeNamesRow : OpenClaim := { program := "ytdlglllidolggaa", sum := "b711dbb99f06dd305f1716f795c570e32b80e260297ca71fdbc11b5262e82326", func := "pinfold/pinfoldlaw16.InodeNames", spec := "inodeNames", unfollowed := true, recurses := true, apart := false }
def InodeNamesSaid : Prop := inodeNamesRow.holds Try.pinned (OpenSpec.ofChange inodeNamesSpec)

/-- ITS FALSE NEIGHBOUR: 'it returns false'. Refute it at one input. -/
def inodeNamesWrong : ChangeSpec := { name := "inodeNames", fn := fun _ => fun
  | [d1, d2] => { results := [.lit (.bool false)], args := [d1, d2] }
  | _ => none }
def InodeNamesWrongFalsely : Prop := inodeNamesRow.holds Try.pinned (OpenSpec.ofChange inodeNamesWrong)

/-- 'pinfoldlaw16.InodeDeep': WHATEVER THE INPUT: true; the input reads as it did. -/
def inodeDeepSpec : ChangeSpec := { name := "inodeDeep", fn := fun _ => fun
  | [d1, d2, d3] => { results := [.lit (.bool true)], args := [d1, d2, d3] }
  | _ => none }
def inodeDeepRow : OpenClaim := { program := "ytdlglllidolggaa", sum := "b711dbb99f06dd305f1716f795c570e32b80e260297ca71fdbc11b5262e82326", func := "pinfold/pinfoldlaw16.InodeDeep", spec := "inodeDeep", recurses := true, apart := false }
def InodeDeepSaid : Prop := inodeDeepRow.holds Try.pinned (OpenSpec.ofChange inodeDeepSpec)

/-- ITS FALSE NEIGHBOUR: 'it returns false'. Refute it at one input. -/
def inodeDeepWrong : ChangeSpec := { name := "inodeDeep", fn := fun _ => fun
  | [d1, d2, d3] => { results := [.lit (.bool false)], args := [d1, d2, d3] }
  | _ => none }
def InodeDeepWrongFalsely : Prop := inodeDeepRow.holds Try.pinned (OpenSpec.ofChange inodeDeepWrong)

/-- 'pinfoldlaw16.InodeFull': WHATEVER THE INPUT: true; the input reads as it did. -/
def inodeFullSpec : ChangeSpec := { name := "inodeFull", fn := fun _ => fun
  | [d1, d2] => { results := [.lit (.bool true)], args := [d1, d2] }
  | _ => none }
def inodeFullRow : OpenClaim := { program := "ytdlglllidolggaa", sum := "b711dbb99f06dd305f1716f795c570e32b80e260297ca71fdbc11b5262e82326", func := "pinfold/pinfoldlaw16.InodeFull", spec := "inodeFull", recurses := true, apart := false }
def InodeFullSaid : Prop := inodeFullRow.holds Try.pinned (OpenSpec.ofChange inodeFullSpec)

/-- ITS FALSE NEIGHBOUR: 'it returns false'. Refute it at one input. -/
def inodeFullWrong : ChangeSpec := { name := "inodeFull", fn := fun _ => fun
  | [d1, d2] => { results := [.lit (.bool false)], args := [d1, d2] }
  | _ => none }
def InodeFullWrongFalsely : Prop := inodeFullRow.holds Try.pinned (OpenSpec.ofChange inodeFullWrong)

/-- 'pinfoldlaw16.InodeNone': WHATEVER THE INPUT: true; the input reads as it did. -/
def inodeNoneSpec : ChangeSpec := { name := "inodeNone", fn := fun _ => fun
  | [d1, d2, d3, d4, d5] => { results := [.lit (.bool true)], args := [d1, d2, d3, d4, d5] }
  | _ => none }
def inodeNoneRow : OpenClaim := { program := "ytdlglllidolggaa", sum := "b711dbb99f06dd305f1716f795c570e32b80e260297ca71fdbc11b5262e82326", func := "pinfold/pinfoldlaw16.InodeNone", spec := "inodeNone", unfollowed := true, recurses := true, apart := false }
def InodeNoneSaid : Prop := inodeNoneRow.holds Try.pinned (OpenSpec.ofChange inodeNoneSpec)

/-- ITS FALSE NEIGHBOUR: 'it returns false'. Refute it at one input. -/
def inodeNoneWrong : ChangeSpec := { name := "inodeNone", fn := fun _ => fun
  | [d1, d2, d3, d4, d5] => { results := [.lit (.bool false)], args := [d1, d2, d3, d4, d5] }
  | _ => none }
def InodeNoneWrongFalsely : Prop := inodeNoneRow.holds Try.pinned (OpenSpec.ofChange inodeNoneWrong)

/-- 'pinfoldlaw16.InodeSpots': WHATEVER THE INPUT: true; the input reads as it did. -/
def inodeSpotsSpec : ChangeSpec := { name := "inodeSpots", fn := fun _ => fun
  | [d] => { results := [.lit (.bool true)], args := [d] }
  | _ => none }
def inodeSpotsRow : OpenClaim := { program := "ytdlglllidolggaa", sum := "b711dbb99f06dd305f1716f795c570e32b80e260297ca71fdbc11b5262e82326", func := "pinfold/pinfoldlaw16.InodeSpots", spec := "inodeSpots", recurses := true, apart := false }
def InodeSpotsSaid : Prop := inodeSpotsRow.holds Try.pinned (OpenSpec.ofChange inodeSpotsSpec)

/-- ITS FALSE NEIGHBOUR: 'it returns false'. Refute it at one input. -/
def inodeSpotsWrong : ChangeSpec := { name := "inodeSpots", fn := fun _ => fun
  | [d] => { results := [.lit (.bool false)], args := [d] }
  | _ => none }
def InodeSpotsWrongFalsely : Prop := inodeSpotsRow.holds Try.pinned (OpenSpec.ofChange inodeSpotsWrong)

/-- 'pinfoldlaw16.InodeHeld': WHATEVER THE INPUT: true; the input reads as it did. -/
def inodeHeldSpec : ChangeSpec := { name := "inodeHeld", fn := fun _ => fun
  | [d1, d2, d3, d4] => { results := [.lit (.bool true)], args := [d1, d2, d3, d4] }
  | _ => none }
def inodeHeldRow : OpenClaim := { program := "ytdlglllidolggaa", sum := "b711dbb99f06dd305f1716f795c570e32b80e260297ca71fdbc11b5262e82326", func := "pinfold/pinfoldlaw16.InodeHeld", spec := "inodeHeld", apart := false }
def InodeHeldSaid : Prop := inodeHeldRow.holds Try.pinned (OpenSpec.ofChange inodeHeldSpec)

/-- ITS FALSE NEIGHBOUR: 'it returns false'. Refute it at one input. -/
def inodeHeldWrong : ChangeSpec := { name := "inodeHeld", fn := fun _ => fun
  | [d1, d2, d3, d4] => { results := [.lit (.bool false)], args := [d1, d2, d3, d4] }
  | _ => none }
def InodeHeldWrongFalsely : Prop := inodeHeldRow.holds Try.pinned (OpenSpec.ofChange inodeHeldWrong)

/- THE SECOND FORM. 'bulk': how many values and letters a reading holds, each counted each time it is reached (what is shared counts as often as it is met; a slice's spare places count too). A statement '..UptoSaid' is the law's where the arguments, and the package variables that the reading takes, are together of bulk at most 1048576: NARROWER than '..Said'. Prove '..Said' where nothing that the law and all that it calls make is longer than what came in: it says more and counts as full. Else prove '..UptoSaid'. A law counts once. -/
mutual
def uptoBulk {H : Type} : DataW H → Nat
  | .lit (.string bytes) => bytes.length + 1
  | .lit _ => 1
  | .nil => 1
  | .ptr d => uptoBulk d + 1
  | .slice elems spare => uptoBulkAll elems + uptoBulkAll spare + 1
  | .agg parts => uptoBulkAll parts + 1
  | .iface _ d => uptoBulk d + 1
  | .map entries => uptoBulkEntries entries + 1
  | .held _ => 1
def uptoBulkAll {H : Type} : List (DataW H) → Nat
  | [] => 0
  | d :: r => uptoBulk d + uptoBulkAll r
def uptoBulkEntries {H : Type} : List (Lit × DataW H) → Nat
  | [] => 0
  | x :: r => uptoBulkEntry x + uptoBulkEntries r
def uptoBulkEntry {H : Type} : Lit × DataW H → Nat
  | (.string bytes, d) => bytes.length + uptoBulk d + 1
  | (_, d) => uptoBulk d + 1
 end
def uptoSmall : (H : Type) → List (DataW H) → Bool := fun _ ds => decide (uptoBulkAll ds ≤ 1048576)
def OpenSpec.upto (s : _root_.Go.ChangeSpec) : _root_.Go.OpenSpec := { _root_.Go.OpenSpec.ofChange s with cond := some uptoSmall }

/-- 'pinfoldlaw16.InodeNames', WHERE WHAT IT READS IS OF BULK AT MOST 1048576: true; the input reads as it did. -/
def inodeNamesUptoRow : OpenClaim := { program := "ytdlglllidolggaa", sum := "b711dbb99f06dd305f1716f795c570e32b80e260297ca71fdbc11b5262e82326", func := "pinfold/pinfoldlaw16.InodeNames", spec := "inodeNames", unfollowed := true, recurses := true, apart := false, narrowed := true }
def InodeNamesUptoSaid : Prop := inodeNamesUptoRow.holds Try.pinned (OpenSpec.upto inodeNamesSpec)

/-- 'pinfoldlaw16.InodeDeep', WHERE WHAT IT READS IS OF BULK AT MOST 1048576: true; the input reads as it did. -/
def inodeDeepUptoRow : OpenClaim := { program := "ytdlglllidolggaa", sum := "b711dbb99f06dd305f1716f795c570e32b80e260297ca71fdbc11b5262e82326", func := "pinfold/pinfoldlaw16.InodeDeep", spec := "inodeDeep", recurses := true, apart := false, narrowed := true }
def InodeDeepUptoSaid : Prop := inodeDeepUptoRow.holds Try.pinned (OpenSpec.upto inodeDeepSpec)

/-- 'pinfoldlaw16.InodeFull', WHERE WHAT IT READS IS OF BULK AT MOST 1048576: true; the input reads as it did. -/
def inodeFullUptoRow : OpenClaim := { program := "ytdlglllidolggaa", sum := "b711dbb99f06dd305f1716f795c570e32b80e260297ca71fdbc11b5262e82326", func := "pinfold/pinfoldlaw16.InodeFull", spec := "inodeFull", recurses := true, apart := false, narrowed := true }
def InodeFullUptoSaid : Prop := inodeFullUptoRow.holds Try.pinned (OpenSpec.upto inodeFullSpec)

/-- 'pinfoldlaw16.InodeNone', WHERE WHAT IT READS IS OF BULK AT MOST 1048576: true; the input reads as it did. -/
def inodeNoneUptoRow : OpenClaim := { program := "ytdlglllidolggaa", sum := "b711dbb99f06dd305f1716f795c570e32b80e260297ca71fdbc11b5262e82326", func := "pinfold/pinfoldlaw16.InodeNone", spec := "inodeNone", unfollowed := true, recurses := true, apart := false, narrowed := true }
def InodeNoneUptoSaid : Prop := inodeNoneUptoRow.holds Try.pinned (OpenSpec.upto inodeNoneSpec)

/-- 'pinfoldlaw16.InodeSpots', WHERE WHAT IT READS IS OF BULK AT MOST 1048576: true; the input reads as it did. -/
def inodeSpotsUptoRow : OpenClaim := { program := "ytdlglllidolggaa", sum := "b711dbb99f06dd305f1716f795c570e32b80e260297ca71fdbc11b5262e82326", func := "pinfold/pinfoldlaw16.InodeSpots", spec := "inodeSpots", recurses := true, apart := false, narrowed := true }
def InodeSpotsUptoSaid : Prop := inodeSpotsUptoRow.holds Try.pinned (OpenSpec.upto inodeSpotsSpec)

/-- 'pinfoldlaw16.InodeHeld', WHERE WHAT IT READS IS OF BULK AT MOST 1048576: true; the input reads as it did. -/
def inodeHeldUptoRow : OpenClaim := { program := "ytdlglllidolggaa", sum := "b711dbb99f06dd305f1716f795c570e32b80e260297ca71fdbc11b5262e82326", func := "pinfold/pinfoldlaw16.InodeHeld", spec := "inodeHeld", apart := false, narrowed := true }
def InodeHeldUptoSaid : Prop := inodeHeldUptoRow.holds Try.pinned (OpenSpec.upto inodeHeldSpec)

end Rows
end Go.Proofs.Ytdlglllidolggaa
