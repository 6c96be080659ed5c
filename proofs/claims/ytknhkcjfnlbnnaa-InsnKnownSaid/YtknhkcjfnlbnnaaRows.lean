/-
  No cell of these rows narrows 'for every input' (looked for: loops, veiled, ifaces, maps, wideKeys, modest, calm, conditions, laid).
  DERIVED. THE GIVEN ROWS OF THIS SEAT. 3 by the template 'for every input the law returns true; each argument reads behind the call as it read before'; 0 by the template 'total and deterministic' (their statements: YtknhkcjfnlbnnaaTotals.lean).
  GIVEN WITH THE SEED: the statements are not yours to turn. If you find one false, say at which input.
  Laid BY PROGRAM, IN A SANDBOX (cutbox-rows.mjs): the forced cells as the released guide's own fill.sh prints them over the translation 1b18a314a39974da… (all of the seat's roots in one cut). By AI agents, Wed Nov 11 2026. No macro, syntax, notation, axiom, sorry.
-/
import Derived.Test.YtknhkcjfnlbnnaaChecked
import GoSem.Claim
import GoSem.ClaimJoined
import GoSem.ClaimMapViews
import Derived.JoinedTies
import Derived.KernelRfl
namespace Go.Proofs.Ytknhkcjfnlbnnaa
/- THE CELL 'sum', in the pinned program and in every row, IS THE sha256 OF THE DUMP (.gsa) THAT YtknhkcjfnlbnnaaProg.lean LOADS. Nothing in Lean hashes anything: it is a label: what it is worth is what the hold of that sum in a sandbox is worth. -/
noncomputable def Try.pinned : Pinned := { name := "ytknhkcjfnlbnnaa", sum := "1b18a314a39974dac0ada4a97d61749ce1e1537860a0885f95663da1a3f11d26", checked := Try.checked }
namespace Rows
def none {H : Type} : Left H := { results := [], args := [] }

/-- 'pinfoldlaw03.InsnKnown': WHATEVER THE INPUT: true; the input reads as it did. -/
def insnKnownSpec : ChangeSpec := { name := "insnKnown", fn := fun _ => fun
  | [d1, d2] => { results := [.lit (.bool true)], args := [d1, d2] }
  | _ => none }
def insnKnownRow : OpenClaim := { program := "ytknhkcjfnlbnnaa", sum := "1b18a314a39974dac0ada4a97d61749ce1e1537860a0885f95663da1a3f11d26", func := "pinfold/pinfoldlaw03.InsnKnown", spec := "insnKnown", apart := false }
def InsnKnownSaid : Prop := insnKnownRow.holds Try.pinned (OpenSpec.ofChange insnKnownSpec)

/-- ITS FALSE NEIGHBOUR: 'it returns false'. Refute it at one input. -/
def insnKnownWrong : ChangeSpec := { name := "insnKnown", fn := fun _ => fun
  | [d1, d2] => { results := [.lit (.bool false)], args := [d1, d2] }
  | _ => none }
def InsnKnownWrongFalsely : Prop := insnKnownRow.holds Try.pinned (OpenSpec.ofChange insnKnownWrong)

/-- 'pinfoldlaw03.InsnBytes': WHATEVER THE INPUT: true; the input reads as it did. -/
def insnBytesSpec : ChangeSpec := { name := "insnBytes", fn := fun _ => fun
  | [d1, d2, d3] => { results := [.lit (.bool true)], args := [d1, d2, d3] }
  | _ => none }
def insnBytesRow : OpenClaim := { program := "ytknhkcjfnlbnnaa", sum := "1b18a314a39974dac0ada4a97d61749ce1e1537860a0885f95663da1a3f11d26", func := "pinfold/pinfoldlaw03.InsnBytes", spec := "insnBytes", apart := false }
def InsnBytesSaid : Prop := insnBytesRow.holds Try.pinned (OpenSpec.ofChange insnBytesSpec)

/-- ITS FALSE NEIGHBOUR: 'it returns false'. Refute it at one input. -/
def insnBytesWrong : ChangeSpec := { name := "insnBytes", fn := fun _ => fun
  | [d1, d2, d3] => { results := [.lit (.bool false)], args := [d1, d2, d3] }
  | _ => none }
def InsnBytesWrongFalsely : Prop := insnBytesRow.holds Try.pinned (OpenSpec.ofChange insnBytesWrong)

/-- 'pinfoldlaw03.InsnMakes': WHATEVER THE INPUT: true; the input reads as it did. -/
def insnMakesSpec : ChangeSpec := { name := "insnMakes", fn := fun _ => fun
  | [d1, d2, d3, d4] => { results := [.lit (.bool true)], args := [d1, d2, d3, d4] }
  | _ => none }
def insnMakesRow : OpenClaim := { program := "ytknhkcjfnlbnnaa", sum := "1b18a314a39974dac0ada4a97d61749ce1e1537860a0885f95663da1a3f11d26", func := "pinfold/pinfoldlaw03.InsnMakes", spec := "insnMakes", apart := false }
def InsnMakesSaid : Prop := insnMakesRow.holds Try.pinned (OpenSpec.ofChange insnMakesSpec)

/-- ITS FALSE NEIGHBOUR: 'it returns false'. Refute it at one input. -/
def insnMakesWrong : ChangeSpec := { name := "insnMakes", fn := fun _ => fun
  | [d1, d2, d3, d4] => { results := [.lit (.bool false)], args := [d1, d2, d3, d4] }
  | _ => none }
def InsnMakesWrongFalsely : Prop := insnMakesRow.holds Try.pinned (OpenSpec.ofChange insnMakesWrong)

/- THE SECOND FORM. 'bulk': how many values and letters a reading holds, each counted each time it is reached (what is shared counts as often as it is met; a slice's spare places count too). A statement '..UptoSaid' is the law's where the arguments, and the package variables that the reading takes, are together of bulk at most 1048576: NARROWER than '..Said'. Prove '..Said' where nothing that the law and all that it calls make is longer than what came in: it says more and counts as full. Else prove '..UptoSaid'. A law counts once. -/
mutual
def uptoBulk {H : Type} : DataW H → Nat
  | .lit (.string bytes) => bytes.length + 1
  | .lit _ => 1
  | .nil => 1
  | .ptr d => uptoBulk d + 1
  | .slice elems spare => uptoBulkAll elems + uptoBulkAll spare + 1
  | .agg parts => uptoBulkAll parts + 1
  | .iface _ d => uptoBulk d + 1
  | .map entries => uptoBulkEntries entries + 1
  | .held _ => 1
def uptoBulkAll {H : Type} : List (DataW H) → Nat
  | [] => 0
  | d :: r => uptoBulk d + uptoBulkAll r
def uptoBulkEntries {H : Type} : List (Lit × DataW H) → Nat
  | [] => 0
  | x :: r => uptoBulkEntry x + uptoBulkEntries r
def uptoBulkEntry {H : Type} : Lit × DataW H → Nat
  | (.string bytes, d) => bytes.length + uptoBulk d + 1
  | (_, d) => uptoBulk d + 1
 end
def uptoSmall : (H : Type) → List (DataW H) → Bool := fun _ ds => decide (uptoBulkAll ds ≤ 1048576)
def OpenSpec.upto (s : _root_.Go.ChangeSpec) : _root_.Go.OpenSpec := { _root_.Go.OpenSpec.ofChange s with cond := some uptoSmall }

/-- 'pinfoldlaw03.InsnKnown', WHERE WHAT IT READS IS OF BULK AT MOST 1048576: true; the input reads as it did. -/
def insnKnownUptoRow : OpenClaim := { program := "ytknhkcjfnlbnnaa", sum := "1b18a314a39974dac0ada4a97d61749ce1e1537860a0885f95663da1a3f11d26", func := "pinfold/pinfoldlaw03.InsnKnown", spec := "insnKnown", apart := false, narrowed := true }
def InsnKnownUptoSaid : Prop := insnKnownUptoRow.holds Try.pinned (OpenSpec.upto insnKnownSpec)

/-- 'pinfoldlaw03.InsnBytes', WHERE WHAT IT READS IS OF BULK AT MOST 1048576: true; the input reads as it did. -/
def insnBytesUptoRow : OpenClaim := { program := "ytknhkcjfnlbnnaa", sum := "1b18a314a39974dac0ada4a97d61749ce1e1537860a0885f95663da1a3f11d26", func := "pinfold/pinfoldlaw03.InsnBytes", spec := "insnBytes", apart := false, narrowed := true }
def InsnBytesUptoSaid : Prop := insnBytesUptoRow.holds Try.pinned (OpenSpec.upto insnBytesSpec)

/-- 'pinfoldlaw03.InsnMakes', WHERE WHAT IT READS IS OF BULK AT MOST 1048576: true; the input reads as it did. -/
def insnMakesUptoRow : OpenClaim := { program := "ytknhkcjfnlbnnaa", sum := "1b18a314a39974dac0ada4a97d61749ce1e1537860a0885f95663da1a3f11d26", func := "pinfold/pinfoldlaw03.InsnMakes", spec := "insnMakes", apart := false, narrowed := true }
def InsnMakesUptoSaid : Prop := insnMakesUptoRow.holds Try.pinned (OpenSpec.upto insnMakesSpec)

end Rows
end Go.Proofs.Ytknhkcjfnlbnnaa
