/-
  NARROWER THAN 'FOR EVERY INPUT', by the rows' own cells (each row's printed sentence says how): RightTexts: laid · RightOnes: laid · RightFits: laid · RightOnce: laid · RightAlgebra: laid.
  DERIVED. THE GIVEN ROWS OF THIS SEAT. 5 by the template 'for every input the law returns true; each argument reads behind the call as it read before'; 0 by the template 'total and deterministic' (their statements: YtpglioibdhcjkaaDoorTotals.lean).
  GIVEN WITH THE SEED: the statements are not yours to turn. If you find one false, say at which input.
  Laid BY PROGRAM, IN A SANDBOX (cutbox-rows.mjs): the forced cells as the released guide's own fill.sh prints them over the translation 0d468157a19f3d28… (all of the seat's roots in one cut). By AI agents, Wed Nov 11 2026. No macro, syntax, notation, axiom, sorry.
-/
import Derived.Test.YtpglioibdhcjkaaDoorChecked
import GoSem.Claim
import GoSem.ClaimJoined
import GoSem.ClaimMapViews
import Derived.JoinedTies
import Derived.KernelRfl
namespace Go.Proofs.YtpglioibdhcjkaaDoor
/- THE CELL 'sum', in the pinned program and in every row, IS THE sha256 OF THE DUMP (.gsa) THAT YtpglioibdhcjkaaDoorProg.lean LOADS. Nothing in Lean hashes anything: it is a label: what it is worth is what the hold of that sum in a sandbox is worth. -/
noncomputable def Tryd.pinned : Pinned := { name := "ytpglioibdhcjkaadoor", sum := "0d468157a19f3d2808a6c4679af99733d927f6be80e882493b8809d4747e50d4", checked := Tryd.checked }
namespace Rows
def none {H : Type} : Left H := { results := [], args := [] }

/- WHAT THE LISTED PACKAGE-LEVEL VARIABLES READ AS WHEN THE CALL BEGINS. Each datum BY PROGRAM (the guide's laid-datum.mjs) off the statement by which the dump's own 'gosem.cut.vars' lays the variable. In a bare row this is a premise. The card (YtpglioibdhcjkaaDoorCards.lean) ties it to the program's text. -/
def laid_pinfold_right_names {H : Type} : DataW H := .agg [.lit (.string [101, 120, 101, 99]), .lit (.string [119, 114, 105, 116, 101]), .lit (.string [114, 101, 97, 100]), .lit (.string [108, 105, 115, 116]), .lit (.string [114, 109, 100, 105, 114]), .lit (.string [114, 109, 102, 105, 108, 101]), .lit (.string [109, 107, 100, 105, 114]), .lit (.string [109, 107, 102, 105, 108, 101]), .lit (.string [109, 107, 108, 105, 110, 107]), .lit (.string [114, 101, 102, 101, 114]), .lit (.string [116, 114, 117, 110, 99, 97, 116, 101]), .lit (.string []), .lit (.string []), .lit (.string []), .lit (.string [98, 105, 110, 100]), .lit (.string [99, 111, 110, 110, 101, 99, 116])]

/-- 'pinfoldlaw02.RightTexts': WHATEVER THE INPUT: true; the input reads as it did. -/
def rightTextsSpec : ChangeSpec := { name := "rightTexts", fn := fun _ => fun
  | [d1, d2] => { results := [.lit (.bool true)], args := [d1, d2] }
  | _ => none }
def rightTextsRow : OpenClaim := { program := "ytpglioibdhcjkaadoor", sum := "0d468157a19f3d2808a6c4679af99733d927f6be80e882493b8809d4747e50d4", func := "pinfold/pinfoldlaw02.RightTexts", spec := "rightTexts", inPlace := ["internal/bytealg.IndexByteString", "internal/bytealg.IndexString", "internal/abi.NoEscape", "internal/bytealg.MakeNoZero"], named := ["internal/bytealg.MaxLen", "pinfold/right.names"], apart := false, laid := [("pinfold/right.names", laid_pinfold_right_names)] }
def RightTextsSaid : Prop := rightTextsRow.holds Tryd.pinned (OpenSpec.ofChange rightTextsSpec)

/-- ITS FALSE NEIGHBOUR: 'it returns false'. Refute it at one input. -/
def rightTextsWrong : ChangeSpec := { name := "rightTexts", fn := fun _ => fun
  | [d1, d2] => { results := [.lit (.bool false)], args := [d1, d2] }
  | _ => none }
def RightTextsWrongFalsely : Prop := rightTextsRow.holds Tryd.pinned (OpenSpec.ofChange rightTextsWrong)

/-- 'pinfoldlaw02.RightOnes': WHATEVER THE INPUT: true; the input reads as it did. -/
def rightOnesSpec : ChangeSpec := { name := "rightOnes", fn := fun _ => fun
  | [d1, d2, d3] => { results := [.lit (.bool true)], args := [d1, d2, d3] }
  | _ => none }
def rightOnesRow : OpenClaim := { program := "ytpglioibdhcjkaadoor", sum := "0d468157a19f3d2808a6c4679af99733d927f6be80e882493b8809d4747e50d4", func := "pinfold/pinfoldlaw02.RightOnes", spec := "rightOnes", inPlace := ["internal/bytealg.IndexByteString", "internal/bytealg.IndexString", "internal/abi.NoEscape", "internal/bytealg.MakeNoZero"], named := ["internal/bytealg.MaxLen", "pinfold/right.names"], apart := false, laid := [("pinfold/right.names", laid_pinfold_right_names)] }
def RightOnesSaid : Prop := rightOnesRow.holds Tryd.pinned (OpenSpec.ofChange rightOnesSpec)

/-- ITS FALSE NEIGHBOUR: 'it returns false'. Refute it at one input. -/
def rightOnesWrong : ChangeSpec := { name := "rightOnes", fn := fun _ => fun
  | [d1, d2, d3] => { results := [.lit (.bool false)], args := [d1, d2, d3] }
  | _ => none }
def RightOnesWrongFalsely : Prop := rightOnesRow.holds Tryd.pinned (OpenSpec.ofChange rightOnesWrong)

/-- 'pinfoldlaw02.RightFits': WHATEVER THE INPUT: true; the input reads as it did. -/
def rightFitsSpec : ChangeSpec := { name := "rightFits", fn := fun _ => fun
  | [d] => { results := [.lit (.bool true)], args := [d] }
  | _ => none }
def rightFitsRow : OpenClaim := { program := "ytpglioibdhcjkaadoor", sum := "0d468157a19f3d2808a6c4679af99733d927f6be80e882493b8809d4747e50d4", func := "pinfold/pinfoldlaw02.RightFits", spec := "rightFits", inPlace := ["internal/bytealg.IndexByteString", "internal/bytealg.IndexString", "internal/abi.NoEscape", "internal/bytealg.MakeNoZero"], named := ["internal/bytealg.MaxLen", "pinfold/right.names"], apart := false, laid := [("pinfold/right.names", laid_pinfold_right_names)] }
def RightFitsSaid : Prop := rightFitsRow.holds Tryd.pinned (OpenSpec.ofChange rightFitsSpec)

/-- ITS FALSE NEIGHBOUR: 'it returns false'. Refute it at one input. -/
def rightFitsWrong : ChangeSpec := { name := "rightFits", fn := fun _ => fun
  | [d] => { results := [.lit (.bool false)], args := [d] }
  | _ => none }
def RightFitsWrongFalsely : Prop := rightFitsRow.holds Tryd.pinned (OpenSpec.ofChange rightFitsWrong)

/-- 'pinfoldlaw02.RightOnce': WHATEVER THE INPUT: true; the input reads as it did. -/
def rightOnceSpec : ChangeSpec := { name := "rightOnce", fn := fun _ => fun
  | [d1, d2] => { results := [.lit (.bool true)], args := [d1, d2] }
  | _ => none }
def rightOnceRow : OpenClaim := { program := "ytpglioibdhcjkaadoor", sum := "0d468157a19f3d2808a6c4679af99733d927f6be80e882493b8809d4747e50d4", func := "pinfold/pinfoldlaw02.RightOnce", spec := "rightOnce", inPlace := ["internal/bytealg.IndexByteString", "internal/bytealg.IndexString", "internal/abi.NoEscape", "internal/bytealg.MakeNoZero"], named := ["internal/bytealg.MaxLen", "pinfold/right.names"], apart := false, laid := [("pinfold/right.names", laid_pinfold_right_names)] }
def RightOnceSaid : Prop := rightOnceRow.holds Tryd.pinned (OpenSpec.ofChange rightOnceSpec)

/-- ITS FALSE NEIGHBOUR: 'it returns false'. Refute it at one input. -/
def rightOnceWrong : ChangeSpec := { name := "rightOnce", fn := fun _ => fun
  | [d1, d2] => { results := [.lit (.bool false)], args := [d1, d2] }
  | _ => none }
def RightOnceWrongFalsely : Prop := rightOnceRow.holds Tryd.pinned (OpenSpec.ofChange rightOnceWrong)

/-- 'pinfoldlaw02.RightAlgebra': WHATEVER THE INPUT: true; the input reads as it did. -/
def rightAlgebraSpec : ChangeSpec := { name := "rightAlgebra", fn := fun _ => fun
  | [d1, d2, d3] => { results := [.lit (.bool true)], args := [d1, d2, d3] }
  | _ => none }
def rightAlgebraRow : OpenClaim := { program := "ytpglioibdhcjkaadoor", sum := "0d468157a19f3d2808a6c4679af99733d927f6be80e882493b8809d4747e50d4", func := "pinfold/pinfoldlaw02.RightAlgebra", spec := "rightAlgebra", inPlace := ["internal/bytealg.IndexByteString", "internal/bytealg.IndexString", "internal/abi.NoEscape", "internal/bytealg.MakeNoZero"], named := ["internal/bytealg.MaxLen", "pinfold/right.names"], apart := false, laid := [("pinfold/right.names", laid_pinfold_right_names)] }
def RightAlgebraSaid : Prop := rightAlgebraRow.holds Tryd.pinned (OpenSpec.ofChange rightAlgebraSpec)

/-- ITS FALSE NEIGHBOUR: 'it returns false'. Refute it at one input. -/
def rightAlgebraWrong : ChangeSpec := { name := "rightAlgebra", fn := fun _ => fun
  | [d1, d2, d3] => { results := [.lit (.bool false)], args := [d1, d2, d3] }
  | _ => none }
def RightAlgebraWrongFalsely : Prop := rightAlgebraRow.holds Tryd.pinned (OpenSpec.ofChange rightAlgebraWrong)

/- THE SECOND FORM. 'bulk': how many values and letters a reading holds, each counted each time it is reached (what is shared counts as often as it is met; a slice's spare places count too). A statement '..UptoSaid' is the law's where the arguments, and the package variables that the reading takes, are together of bulk at most 1048576: NARROWER than '..Said'. Prove '..Said' where nothing that the law and all that it calls make is longer than what came in: it says more and counts as full. Else prove '..UptoSaid'. A law counts once. -/
mutual
def uptoBulk {H : Type} : DataW H → Nat
  | .lit (.string bytes) => bytes.length + 1
  | .lit _ => 1
  | .nil => 1
  | .ptr d => uptoBulk d + 1
  | .slice elems spare => uptoBulkAll elems + uptoBulkAll spare + 1
  | .agg parts => uptoBulkAll parts + 1
  | .iface _ d => uptoBulk d + 1
  | .map entries => uptoBulkEntries entries + 1
  | .held _ => 1
def uptoBulkAll {H : Type} : List (DataW H) → Nat
  | [] => 0
  | d :: r => uptoBulk d + uptoBulkAll r
def uptoBulkEntries {H : Type} : List (Lit × DataW H) → Nat
  | [] => 0
  | x :: r => uptoBulkEntry x + uptoBulkEntries r
def uptoBulkEntry {H : Type} : Lit × DataW H → Nat
  | (.string bytes, d) => bytes.length + uptoBulk d + 1
  | (_, d) => uptoBulk d + 1
 end
def uptoSmall : (H : Type) → List (DataW H) → Bool := fun _ ds => decide (uptoBulkAll ds ≤ 1048576)
def OpenSpec.upto (s : _root_.Go.ChangeSpec) : _root_.Go.OpenSpec := { _root_.Go.OpenSpec.ofChange s with cond := some uptoSmall }

/-- 'pinfoldlaw02.RightTexts', WHERE WHAT IT READS IS OF BULK AT MOST 1048576: true; the input reads as it did. -/
def rightTextsUptoRow : OpenClaim := { program := "ytpglioibdhcjkaadoor", sum := "0d468157a19f3d2808a6c4679af99733d927f6be80e882493b8809d4747e50d4", func := "pinfold/pinfoldlaw02.RightTexts", spec := "rightTexts", inPlace := ["internal/bytealg.IndexByteString", "internal/bytealg.IndexString", "internal/abi.NoEscape", "internal/bytealg.MakeNoZero"], named := ["internal/bytealg.MaxLen", "pinfold/right.names"], apart := false, laid := [("pinfold/right.names", laid_pinfold_right_names)], narrowed := true }
def RightTextsUptoSaid : Prop := rightTextsUptoRow.holds Tryd.pinned (OpenSpec.upto rightTextsSpec)

/-- 'pinfoldlaw02.RightOnes', WHERE WHAT IT READS IS OF BULK AT MOST 1048576: true; the input reads as it did. -/
def rightOnesUptoRow : OpenClaim := { program := "ytpglioibdhcjkaadoor", sum := "0d468157a19f3d2808a6c4679af99733d927f6be80e882493b8809d4747e50d4", func := "pinfold/pinfoldlaw02.RightOnes", spec := "rightOnes", inPlace := ["internal/bytealg.IndexByteString", "internal/bytealg.IndexString", "internal/abi.NoEscape", "internal/bytealg.MakeNoZero"], named := ["internal/bytealg.MaxLen", "pinfold/right.names"], apart := false, laid := [("pinfold/right.names", laid_pinfold_right_names)], narrowed := true }
def RightOnesUptoSaid : Prop := rightOnesUptoRow.holds Tryd.pinned (OpenSpec.upto rightOnesSpec)

/-- 'pinfoldlaw02.RightFits', WHERE WHAT IT READS IS OF BULK AT MOST 1048576: true; the input reads as it did. -/
def rightFitsUptoRow : OpenClaim := { program := "ytpglioibdhcjkaadoor", sum := "0d468157a19f3d2808a6c4679af99733d927f6be80e882493b8809d4747e50d4", func := "pinfold/pinfoldlaw02.RightFits", spec := "rightFits", inPlace := ["internal/bytealg.IndexByteString", "internal/bytealg.IndexString", "internal/abi.NoEscape", "internal/bytealg.MakeNoZero"], named := ["internal/bytealg.MaxLen", "pinfold/right.names"], apart := false, laid := [("pinfold/right.names", laid_pinfold_right_names)], narrowed := true }
def RightFitsUptoSaid : Prop := rightFitsUptoRow.holds Tryd.pinned (OpenSpec.upto rightFitsSpec)

/-- 'pinfoldlaw02.RightOnce', WHERE WHAT IT READS IS OF BULK AT MOST 1048576: true; the input reads as it did. -/
def rightOnceUptoRow : OpenClaim := { program := "ytpglioibdhcjkaadoor", sum := "0d468157a19f3d2808a6c4679af99733d927f6be80e882493b8809d4747e50d4", func := "pinfold/pinfoldlaw02.RightOnce", spec := "rightOnce", inPlace := ["internal/bytealg.IndexByteString", "internal/bytealg.IndexString", "internal/abi.NoEscape", "internal/bytealg.MakeNoZero"], named := ["internal/bytealg.MaxLen", "pinfold/right.names"], apart := false, laid := [("pinfold/right.names", laid_pinfold_right_names)], narrowed := true }
def RightOnceUptoSaid : Prop := rightOnceUptoRow.holds Tryd.pinned (OpenSpec.upto rightOnceSpec)

/-- 'pinfoldlaw02.RightAlgebra', WHERE WHAT IT READS IS OF BULK AT MOST 1048576: true; the input reads as it did. -/
def rightAlgebraUptoRow : OpenClaim := { program := "ytpglioibdhcjkaadoor", sum := "0d468157a19f3d2808a6c4679af99733d927f6be80e882493b8809d4747e50d4", func := "pinfold/pinfoldlaw02.RightAlgebra", spec := "rightAlgebra", inPlace := ["internal/bytealg.IndexByteString", "internal/bytealg.IndexString", "internal/abi.NoEscape", "internal/bytealg.MakeNoZero"], named := ["internal/bytealg.MaxLen", "pinfold/right.names"], apart := false, laid := [("pinfold/right.names", laid_pinfold_right_names)], narrowed := true }
def RightAlgebraUptoSaid : Prop := rightAlgebraUptoRow.holds Tryd.pinned (OpenSpec.upto rightAlgebraSpec)

end Rows
end Go.Proofs.YtpglioibdhcjkaaDoor
