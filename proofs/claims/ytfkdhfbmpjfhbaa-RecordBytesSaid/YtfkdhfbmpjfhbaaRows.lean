/-
  No cell of these rows narrows 'for every input' (looked for: loops, veiled, ifaces, maps, wideKeys, modest, calm, conditions, laid).
  DERIVED. THE GIVEN ROWS OF THIS SEAT. 4 by the template 'for every input the law returns true; each argument reads behind the call as it read before'; 0 by the template 'total and deterministic' (their statements: YtfkdhfbmpjfhbaaTotals.lean).
  GIVEN WITH THE SEED: the statements are not yours to turn. If you find one false, say at which input.
  Laid BY PROGRAM, IN A SANDBOX (cutbox-rows.mjs): the forced cells as the released guide's own fill.sh prints them over the translation 64d3476736bf130d… (all of the seat's roots in one cut). By AI agents, Wed Nov 11 2026. No macro, syntax, notation, axiom, sorry.
-/
import Derived.Test.YtfkdhfbmpjfhbaaChecked
import GoSem.Claim
import GoSem.ClaimJoined
import GoSem.ClaimMapViews
import Derived.JoinedTies
import Derived.KernelRfl
namespace Go.Proofs.Ytfkdhfbmpjfhbaa
/- THE CELL 'sum', in the pinned program and in every row, IS THE sha256 OF THE DUMP (.gsa) THAT YtfkdhfbmpjfhbaaProg.lean LOADS. Nothing in Lean hashes anything: it is a label: what it is worth is what the hold of that sum in a sandbox is worth. -/
noncomputable def Try.pinned : Pinned := { name := "ytfkdhfbmpjfhbaa", sum := "64d3476736bf130d9ba4fe2e23fbc12e97f298fb1c189935cf14a54a9962fed0", checked := Try.checked }
namespace Rows
def none {H : Type} : Left H := { results := [], args := [] }

/-- 'pinfoldlaw04.RecordBytes': WHATEVER THE INPUT: true; the input reads as it did. -/
def recordBytesSpec : ChangeSpec := { name := "recordBytes", fn := fun _ => fun
  | [d1, d2, d3] => { results := [.lit (.bool true)], args := [d1, d2, d3] }
  | _ => none }
def recordBytesRow : OpenClaim := { program := "ytfkdhfbmpjfhbaa", sum := "64d3476736bf130d9ba4fe2e23fbc12e97f298fb1c189935cf14a54a9962fed0", func := "pinfold/pinfoldlaw04.RecordBytes", spec := "recordBytes", apart := false }
def RecordBytesSaid : Prop := recordBytesRow.holds Try.pinned (OpenSpec.ofChange recordBytesSpec)

/-- ITS FALSE NEIGHBOUR: 'it returns false'. Refute it at one input. -/
def recordBytesWrong : ChangeSpec := { name := "recordBytes", fn := fun _ => fun
  | [d1, d2, d3] => { results := [.lit (.bool false)], args := [d1, d2, d3] }
  | _ => none }
def RecordBytesWrongFalsely : Prop := recordBytesRow.holds Try.pinned (OpenSpec.ofChange recordBytesWrong)

/-- 'pinfoldlaw04.RecordHalves': WHATEVER THE INPUT: true; the input reads as it did. -/
def recordHalvesSpec : ChangeSpec := { name := "recordHalves", fn := fun _ => fun
  | [d1, d2] => { results := [.lit (.bool true)], args := [d1, d2] }
  | _ => none }
def recordHalvesRow : OpenClaim := { program := "ytfkdhfbmpjfhbaa", sum := "64d3476736bf130d9ba4fe2e23fbc12e97f298fb1c189935cf14a54a9962fed0", func := "pinfold/pinfoldlaw04.RecordHalves", spec := "recordHalves", apart := false }
def RecordHalvesSaid : Prop := recordHalvesRow.holds Try.pinned (OpenSpec.ofChange recordHalvesSpec)

/-- ITS FALSE NEIGHBOUR: 'it returns false'. Refute it at one input. -/
def recordHalvesWrong : ChangeSpec := { name := "recordHalves", fn := fun _ => fun
  | [d1, d2] => { results := [.lit (.bool false)], args := [d1, d2] }
  | _ => none }
def RecordHalvesWrongFalsely : Prop := recordHalvesRow.holds Try.pinned (OpenSpec.ofChange recordHalvesWrong)

/-- 'pinfoldlaw04.RecordActions': WHATEVER THE INPUT: true; the input reads as it did. -/
def recordActionsSpec : ChangeSpec := { name := "recordActions", fn := fun _ => fun
  | [d1, d2, d3, d4] => { results := [.lit (.bool true)], args := [d1, d2, d3, d4] }
  | _ => none }
def recordActionsRow : OpenClaim := { program := "ytfkdhfbmpjfhbaa", sum := "64d3476736bf130d9ba4fe2e23fbc12e97f298fb1c189935cf14a54a9962fed0", func := "pinfold/pinfoldlaw04.RecordActions", spec := "recordActions", apart := false }
def RecordActionsSaid : Prop := recordActionsRow.holds Try.pinned (OpenSpec.ofChange recordActionsSpec)

/-- ITS FALSE NEIGHBOUR: 'it returns false'. Refute it at one input. -/
def recordActionsWrong : ChangeSpec := { name := "recordActions", fn := fun _ => fun
  | [d1, d2, d3, d4] => { results := [.lit (.bool false)], args := [d1, d2, d3, d4] }
  | _ => none }
def RecordActionsWrongFalsely : Prop := recordActionsRow.holds Try.pinned (OpenSpec.ofChange recordActionsWrong)

/-- 'pinfoldlaw04.RecordOrder': WHATEVER THE INPUT: true; the input reads as it did. -/
def recordOrderSpec : ChangeSpec := { name := "recordOrder", fn := fun _ => fun
  | [d1, d2] => { results := [.lit (.bool true)], args := [d1, d2] }
  | _ => none }
def recordOrderRow : OpenClaim := { program := "ytfkdhfbmpjfhbaa", sum := "64d3476736bf130d9ba4fe2e23fbc12e97f298fb1c189935cf14a54a9962fed0", func := "pinfold/pinfoldlaw04.RecordOrder", spec := "recordOrder", unfollowed := true, recurses := true, apart := false }
def RecordOrderSaid : Prop := recordOrderRow.holds Try.pinned (OpenSpec.ofChange recordOrderSpec)

/-- ITS FALSE NEIGHBOUR: 'it returns false'. Refute it at one input. -/
def recordOrderWrong : ChangeSpec := { name := "recordOrder", fn := fun _ => fun
  | [d1, d2] => { results := [.lit (.bool false)], args := [d1, d2] }
  | _ => none }
def RecordOrderWrongFalsely : Prop := recordOrderRow.holds Try.pinned (OpenSpec.ofChange recordOrderWrong)

/- THE SECOND FORM. 'bulk': how many values and letters a reading holds, each counted each time it is reached (what is shared counts as often as it is met; a slice's spare places count too). A statement '..UptoSaid' is the law's where the arguments, and the package variables that the reading takes, are together of bulk at most 1048576: NARROWER than '..Said'. Prove '..Said' where nothing that the law and all that it calls make is longer than what came in: it says more and counts as full. Else prove '..UptoSaid'. A law counts once. -/
mutual
def uptoBulk {H : Type} : DataW H → Nat
  | .lit (.string bytes) => bytes.length + 1
  | .lit _ => 1
  | .nil => 1
  | .ptr d => uptoBulk d + 1
  | .slice elems spare => uptoBulkAll elems + uptoBulkAll spare + 1
  | .agg parts => uptoBulkAll parts + 1
  | .iface _ d => uptoBulk d + 1
  | .map entries => uptoBulkEntries entries + 1
  | .held _ => 1
def uptoBulkAll {H : Type} : List (DataW H) → Nat
  | [] => 0
  | d :: r => uptoBulk d + uptoBulkAll r
def uptoBulkEntries {H : Type} : List (Lit × DataW H) → Nat
  | [] => 0
  | x :: r => uptoBulkEntry x + uptoBulkEntries r
def uptoBulkEntry {H : Type} : Lit × DataW H → Nat
  | (.string bytes, d) => bytes.length + uptoBulk d + 1
  | (_, d) => uptoBulk d + 1
 end
def uptoSmall : (H : Type) → List (DataW H) → Bool := fun _ ds => decide (uptoBulkAll ds ≤ 1048576)
def OpenSpec.upto (s : _root_.Go.ChangeSpec) : _root_.Go.OpenSpec := { _root_.Go.OpenSpec.ofChange s with cond := some uptoSmall }

/-- 'pinfoldlaw04.RecordBytes', WHERE WHAT IT READS IS OF BULK AT MOST 1048576: true; the input reads as it did. -/
def recordBytesUptoRow : OpenClaim := { program := "ytfkdhfbmpjfhbaa", sum := "64d3476736bf130d9ba4fe2e23fbc12e97f298fb1c189935cf14a54a9962fed0", func := "pinfold/pinfoldlaw04.RecordBytes", spec := "recordBytes", apart := false, narrowed := true }
def RecordBytesUptoSaid : Prop := recordBytesUptoRow.holds Try.pinned (OpenSpec.upto recordBytesSpec)

/-- 'pinfoldlaw04.RecordHalves', WHERE WHAT IT READS IS OF BULK AT MOST 1048576: true; the input reads as it did. -/
def recordHalvesUptoRow : OpenClaim := { program := "ytfkdhfbmpjfhbaa", sum := "64d3476736bf130d9ba4fe2e23fbc12e97f298fb1c189935cf14a54a9962fed0", func := "pinfold/pinfoldlaw04.RecordHalves", spec := "recordHalves", apart := false, narrowed := true }
def RecordHalvesUptoSaid : Prop := recordHalvesUptoRow.holds Try.pinned (OpenSpec.upto recordHalvesSpec)

/-- 'pinfoldlaw04.RecordActions', WHERE WHAT IT READS IS OF BULK AT MOST 1048576: true; the input reads as it did. -/
def recordActionsUptoRow : OpenClaim := { program := "ytfkdhfbmpjfhbaa", sum := "64d3476736bf130d9ba4fe2e23fbc12e97f298fb1c189935cf14a54a9962fed0", func := "pinfold/pinfoldlaw04.RecordActions", spec := "recordActions", apart := false, narrowed := true }
def RecordActionsUptoSaid : Prop := recordActionsUptoRow.holds Try.pinned (OpenSpec.upto recordActionsSpec)

/-- 'pinfoldlaw04.RecordOrder', WHERE WHAT IT READS IS OF BULK AT MOST 1048576: true; the input reads as it did. -/
def recordOrderUptoRow : OpenClaim := { program := "ytfkdhfbmpjfhbaa", sum := "64d3476736bf130d9ba4fe2e23fbc12e97f298fb1c189935cf14a54a9962fed0", func := "pinfold/pinfoldlaw04.RecordOrder", spec := "recordOrder", unfollowed := true, recurses := true, apart := false, narrowed := true }
def RecordOrderUptoSaid : Prop := recordOrderUptoRow.holds Try.pinned (OpenSpec.upto recordOrderSpec)

end Rows
end Go.Proofs.Ytfkdhfbmpjfhbaa
