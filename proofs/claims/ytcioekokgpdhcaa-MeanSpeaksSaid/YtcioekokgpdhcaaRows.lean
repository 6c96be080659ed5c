/-
  No cell of these rows narrows 'for every input' (looked for: loops, veiled, ifaces, maps, wideKeys, modest, calm, conditions, laid).
  DERIVED. THE GIVEN ROWS OF THIS SEAT. 4 by the template 'for every input the law returns true; each argument reads behind the call as it read before'; 0 by the template 'total and deterministic' (their statements: YtcioekokgpdhcaaTotals.lean).
  GIVEN WITH THE SEED: the statements are not yours to turn. If you find one false, say at which input.
  Laid BY PROGRAM, IN A SANDBOX (cutbox-rows.mjs): the forced cells as the released guide's own fill.sh prints them over the translation c550e39d6d00a8b0… (all of the seat's roots in one cut). By AI agents, Wed Nov 11 2026. No macro, syntax, notation, axiom, sorry.
-/
import Derived.Test.YtcioekokgpdhcaaChecked
import GoSem.Claim
import GoSem.ClaimJoined
import GoSem.ClaimMapViews
import Derived.JoinedTies
import Derived.KernelRfl
namespace Go.Proofs.Ytcioekokgpdhcaa
/- THE CELL 'sum', in the pinned program and in every row, IS THE sha256 OF THE DUMP (.gsa) THAT YtcioekokgpdhcaaProg.lean LOADS. Nothing in Lean hashes anything: it is a label: what it is worth is what the hold of that sum in a sandbox is worth. -/
noncomputable def Try.pinned : Pinned := { name := "ytcioekokgpdhcaa", sum := "c550e39d6d00a8b0fdc5d06a86d183219f3b61029a1a3562d2346b05a5e7adc2", checked := Try.checked }
namespace Rows
def none {H : Type} : Left H := { results := [], args := [] }

/-- 'pinfoldlaw11.MeanSays': WHATEVER THE INPUT: true; the input reads as it did. -/
def meanSaysSpec : ChangeSpec := { name := "meanSays", fn := fun _ => fun
  | [d1, d2, d3, d4] => { results := [.lit (.bool true)], args := [d1, d2, d3, d4] }
  | _ => none }
def meanSaysRow : OpenClaim := { program := "ytcioekokgpdhcaa", sum := "c550e39d6d00a8b0fdc5d06a86d183219f3b61029a1a3562d2346b05a5e7adc2", func := "pinfold/pinfoldlaw11.MeanSays", spec := "meanSays", unfollowed := true, recurses := true, apart := false }
def MeanSaysSaid : Prop := meanSaysRow.holds Try.pinned (OpenSpec.ofChange meanSaysSpec)

/-- ITS FALSE NEIGHBOUR: 'it returns false'. Refute it at one input. -/
def meanSaysWrong : ChangeSpec := { name := "meanSays", fn := fun _ => fun
  | [d1, d2, d3, d4] => { results := [.lit (.bool false)], args := [d1, d2, d3, d4] }
  | _ => none }
def MeanSaysWrongFalsely : Prop := meanSaysRow.holds Try.pinned (OpenSpec.ofChange meanSaysWrong)

/-- 'pinfoldlaw11.MeanAll': WHATEVER THE INPUT: true; the input reads as it did. -/
def meanAllSpec : ChangeSpec := { name := "meanAll", fn := fun _ => fun
  | [d1, d2, d3, d4] => { results := [.lit (.bool true)], args := [d1, d2, d3, d4] }
  | _ => none }
def meanAllRow : OpenClaim := { program := "ytcioekokgpdhcaa", sum := "c550e39d6d00a8b0fdc5d06a86d183219f3b61029a1a3562d2346b05a5e7adc2", func := "pinfold/pinfoldlaw11.MeanAll", spec := "meanAll", unfollowed := true, recurses := true, apart := false }
def MeanAllSaid : Prop := meanAllRow.holds Try.pinned (OpenSpec.ofChange meanAllSpec)

/-- ITS FALSE NEIGHBOUR: 'it returns false'. Refute it at one input. -/
def meanAllWrong : ChangeSpec := { name := "meanAll", fn := fun _ => fun
  | [d1, d2, d3, d4] => { results := [.lit (.bool false)], args := [d1, d2, d3, d4] }
  | _ => none }
def MeanAllWrongFalsely : Prop := meanAllRow.holds Try.pinned (OpenSpec.ofChange meanAllWrong)

/-- 'pinfoldlaw11.MeanSpeaks': WHATEVER THE INPUT: true; the input reads as it did. -/
def meanSpeaksSpec : ChangeSpec := { name := "meanSpeaks", fn := fun _ => fun
  | [d1, d2, d3, d4] => { results := [.lit (.bool true)], args := [d1, d2, d3, d4] }
  | _ => none }
def meanSpeaksRow : OpenClaim := { program := "ytcioekokgpdhcaa", sum := "c550e39d6d00a8b0fdc5d06a86d183219f3b61029a1a3562d2346b05a5e7adc2", func := "pinfold/pinfoldlaw11.MeanSpeaks", spec := "meanSpeaks", unfollowed := true, recurses := true, apart := false }
def MeanSpeaksSaid : Prop := meanSpeaksRow.holds Try.pinned (OpenSpec.ofChange meanSpeaksSpec)

/-- ITS FALSE NEIGHBOUR: 'it returns false'. Refute it at one input. -/
def meanSpeaksWrong : ChangeSpec := { name := "meanSpeaks", fn := fun _ => fun
  | [d1, d2, d3, d4] => { results := [.lit (.bool false)], args := [d1, d2, d3, d4] }
  | _ => none }
def MeanSpeaksWrongFalsely : Prop := meanSpeaksRow.holds Try.pinned (OpenSpec.ofChange meanSpeaksWrong)

/-- 'pinfoldlaw11.MeanNarrows': WHATEVER THE INPUT: true; the input reads as it did. -/
def meanNarrowsSpec : ChangeSpec := { name := "meanNarrows", fn := fun _ => fun
  | [d1, d2, d3, d4] => { results := [.lit (.bool true)], args := [d1, d2, d3, d4] }
  | _ => none }
def meanNarrowsRow : OpenClaim := { program := "ytcioekokgpdhcaa", sum := "c550e39d6d00a8b0fdc5d06a86d183219f3b61029a1a3562d2346b05a5e7adc2", func := "pinfold/pinfoldlaw11.MeanNarrows", spec := "meanNarrows", unfollowed := true, recurses := true, apart := false }
def MeanNarrowsSaid : Prop := meanNarrowsRow.holds Try.pinned (OpenSpec.ofChange meanNarrowsSpec)

/-- ITS FALSE NEIGHBOUR: 'it returns false'. Refute it at one input. -/
def meanNarrowsWrong : ChangeSpec := { name := "meanNarrows", fn := fun _ => fun
  | [d1, d2, d3, d4] => { results := [.lit (.bool false)], args := [d1, d2, d3, d4] }
  | _ => none }
def MeanNarrowsWrongFalsely : Prop := meanNarrowsRow.holds Try.pinned (OpenSpec.ofChange meanNarrowsWrong)

/- THE SECOND FORM. 'bulk': how many values and letters a reading holds, each counted each time it is reached (what is shared counts as often as it is met; a slice's spare places count too). A statement '..UptoSaid' is the law's where the arguments, and the package variables that the reading takes, are together of bulk at most 1048576: NARROWER than '..Said'. Prove '..Said' where nothing that the law and all that it calls make is longer than what came in: it says more and counts as full. Else prove '..UptoSaid'. A law counts once. -/
mutual
def uptoBulk {H : Type} : DataW H → Nat
  | .lit (.string bytes) => bytes.length + 1
  | .lit _ => 1
  | .nil => 1
  | .ptr d => uptoBulk d + 1
  | .slice elems spare => uptoBulkAll elems + uptoBulkAll spare + 1
  | .agg parts => uptoBulkAll parts + 1
  | .iface _ d => uptoBulk d + 1
  | .map entries => uptoBulkEntries entries + 1
  | .held _ => 1
def uptoBulkAll {H : Type} : List (DataW H) → Nat
  | [] => 0
  | d :: r => uptoBulk d + uptoBulkAll r
def uptoBulkEntries {H : Type} : List (Lit × DataW H) → Nat
  | [] => 0
  | x :: r => uptoBulkEntry x + uptoBulkEntries r
def uptoBulkEntry {H : Type} : Lit × DataW H → Nat
  | (.string bytes, d) => bytes.length + uptoBulk d + 1
  | (_, d) => uptoBulk d + 1
 end
def uptoSmall : (H : Type) → List (DataW H) → Bool := fun _ ds => decide (uptoBulkAll ds ≤ 1048576)
def OpenSpec.upto (s : _root_.Go.ChangeSpec) : _root_.Go.OpenSpec := { _root_.Go.OpenSpec.ofChange s with cond := some uptoSmall }

/-- 'pinfoldlaw11.MeanSays', WHERE WHAT IT READS IS OF BULK AT MOST 1048576: true; the input reads as it did. -/
def meanSaysUptoRow : OpenClaim := { program := "ytcioekokgpdhcaa", sum := "c550e39d6d00a8b0fdc5d06a86d183219f3b61029a1a3562d2346b05a5e7adc2", func := "pinfold/pinfoldlaw11.MeanSays", spec := "meanSays", unfollowed := true, recurses := true, apart := false, narrowed := true }
def MeanSaysUptoSaid : Prop := meanSaysUptoRow.holds Try.pinned (OpenSpec.upto meanSaysSpec)

/-- 'pinfoldlaw11.MeanAll', WHERE WHAT IT READS IS OF BULK AT MOST 1048576: true; the input reads as it did. -/
def meanAllUptoRow : OpenClaim := { program := "ytcioekokgpdhcaa", sum := "c550e39d6d00a8b0fdc5d06a86d183219f3b61029a1a3562d2346b05a5e7adc2", func := "pinfold/pinfoldlaw11.MeanAll", spec := "meanAll", unfollowed := true, recurses := true, apart := false, narrowed := true }
def MeanAllUptoSaid : Prop := meanAllUptoRow.holds Try.pinned (OpenSpec.upto meanAllSpec)

/-- 'pinfoldlaw11.MeanSpeaks', WHERE WHAT IT READS IS OF BULK AT MOST 1048576: true; the input reads as it did. -/
def meanSpeaksUptoRow : OpenClaim := { program := "ytcioekokgpdhcaa", sum := "c550e39d6d00a8b0fdc5d06a86d183219f3b61029a1a3562d2346b05a5e7adc2", func := "pinfold/pinfoldlaw11.MeanSpeaks", spec := "meanSpeaks", unfollowed := true, recurses := true, apart := false, narrowed := true }
def MeanSpeaksUptoSaid : Prop := meanSpeaksUptoRow.holds Try.pinned (OpenSpec.upto meanSpeaksSpec)

/-- 'pinfoldlaw11.MeanNarrows', WHERE WHAT IT READS IS OF BULK AT MOST 1048576: true; the input reads as it did. -/
def meanNarrowsUptoRow : OpenClaim := { program := "ytcioekokgpdhcaa", sum := "c550e39d6d00a8b0fdc5d06a86d183219f3b61029a1a3562d2346b05a5e7adc2", func := "pinfold/pinfoldlaw11.MeanNarrows", spec := "meanNarrows", unfollowed := true, recurses := true, apart := false, narrowed := true }
def MeanNarrowsUptoSaid : Prop := meanNarrowsUptoRow.holds Try.pinned (OpenSpec.upto meanNarrowsSpec)

end Rows
end Go.Proofs.Ytcioekokgpdhcaa
