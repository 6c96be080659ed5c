/-
  No cell of these rows narrows 'for every input' (looked for: loops, veiled, ifaces, maps, wideKeys, modest, calm, conditions, laid).
  DERIVED. THE GIVEN ROWS OF THIS SEAT. 5 by the template 'for every input the law returns true; each argument reads behind the call as it read before'; 0 by the template 'total and deterministic' (their statements: YtmbgmbheonpamaaTotals.lean).
  GIVEN WITH THE SEED: the statements are not yours to turn. If you find one false, say at which input.
  Laid BY PROGRAM, IN A SANDBOX (cutbox-rows.mjs): the forced cells as the released guide's own fill.sh prints them over the translation c5bc91b5e611d73e… (all of the seat's roots in one cut). By AI agents, Wed Nov 11 2026. No macro, syntax, notation, axiom, sorry.
-/
import Derived.Test.YtmbgmbheonpamaaChecked
import GoSem.Claim
import GoSem.ClaimJoined
import GoSem.ClaimMapViews
import Derived.JoinedTies
import Derived.KernelRfl
namespace Go.Proofs.Ytmbgmbheonpamaa
/- THE CELL 'sum', in the pinned program and in every row, IS THE sha256 OF THE DUMP (.gsa) THAT YtmbgmbheonpamaaProg.lean LOADS. Nothing in Lean hashes anything: it is a label: what it is worth is what the hold of that sum in a sandbox is worth. -/
noncomputable def Try.pinned : Pinned := { name := "ytmbgmbheonpamaa", sum := "c5bc91b5e611d73e581cee2844300d3ae9b86ca841349f32177ca3e0e44e8f56", checked := Try.checked }
namespace Rows
def none {H : Type} : Left H := { results := [], args := [] }

/-- 'pinfoldlaw16.InodeDeep': WHATEVER THE INPUT: true; the input reads as it did. -/
def inodeDeepSpec : ChangeSpec := { name := "inodeDeep", fn := fun _ => fun
  | [d1, d2, d3] => { results := [.lit (.bool true)], args := [d1, d2, d3] }
  | _ => none }
def inodeDeepRow : OpenClaim := { program := "ytmbgmbheonpamaa", sum := "c5bc91b5e611d73e581cee2844300d3ae9b86ca841349f32177ca3e0e44e8f56", func := "pinfold/pinfoldlaw16.InodeDeep", spec := "inodeDeep", recurses := true, apart := false }
def InodeDeepSaid : Prop := inodeDeepRow.holds Try.pinned (OpenSpec.ofChange inodeDeepSpec)

/-- ITS FALSE NEIGHBOUR: 'it returns false'. Refute it at one input. -/
def inodeDeepWrong : ChangeSpec := { name := "inodeDeep", fn := fun _ => fun
  | [d1, d2, d3] => { results := [.lit (.bool false)], args := [d1, d2, d3] }
  | _ => none }
def InodeDeepWrongFalsely : Prop := inodeDeepRow.holds Try.pinned (OpenSpec.ofChange inodeDeepWrong)

/-- 'pinfoldlaw16.InodeSpots': WHATEVER THE INPUT: true; the input reads as it did. -/
def inodeSpotsSpec : ChangeSpec := { name := "inodeSpots", fn := fun _ => fun
  | [d] => { results := [.lit (.bool true)], args := [d] }
  | _ => none }
def inodeSpotsRow : OpenClaim := { program := "ytmbgmbheonpamaa", sum := "c5bc91b5e611d73e581cee2844300d3ae9b86ca841349f32177ca3e0e44e8f56", func := "pinfold/pinfoldlaw16.InodeSpots", spec := "inodeSpots", recurses := true, apart := false }
def InodeSpotsSaid : Prop := inodeSpotsRow.holds Try.pinned (OpenSpec.ofChange inodeSpotsSpec)

/-- ITS FALSE NEIGHBOUR: 'it returns false'. Refute it at one input. -/
def inodeSpotsWrong : ChangeSpec := { name := "inodeSpots", fn := fun _ => fun
  | [d] => { results := [.lit (.bool false)], args := [d] }
  | _ => none }
def InodeSpotsWrongFalsely : Prop := inodeSpotsRow.holds Try.pinned (OpenSpec.ofChange inodeSpotsWrong)

/-- 'pinfoldlaw17.MountPlays': WHATEVER THE INPUT: true; the input reads as it did. -/
def mountPlaysSpec : ChangeSpec := { name := "mountPlays", fn := fun _ => fun
  | [d1, d2] => { results := [.lit (.bool true)], args := [d1, d2] }
  | _ => none }
def mountPlaysRow : OpenClaim := { program := "ytmbgmbheonpamaa", sum := "c5bc91b5e611d73e581cee2844300d3ae9b86ca841349f32177ca3e0e44e8f56", func := "pinfold/pinfoldlaw17.MountPlays", spec := "mountPlays", unfollowed := true, recurses := true, apart := false }
def MountPlaysSaid : Prop := mountPlaysRow.holds Try.pinned (OpenSpec.ofChange mountPlaysSpec)

/-- ITS FALSE NEIGHBOUR: 'it returns false'. Refute it at one input. -/
def mountPlaysWrong : ChangeSpec := { name := "mountPlays", fn := fun _ => fun
  | [d1, d2] => { results := [.lit (.bool false)], args := [d1, d2] }
  | _ => none }
def MountPlaysWrongFalsely : Prop := mountPlaysRow.holds Try.pinned (OpenSpec.ofChange mountPlaysWrong)

/-- 'pinfoldlaw17.MountBack': WHATEVER THE INPUT: true; the input reads as it did. -/
def mountBackSpec : ChangeSpec := { name := "mountBack", fn := fun _ => fun
  | [d1, d2] => { results := [.lit (.bool true)], args := [d1, d2] }
  | _ => none }
def mountBackRow : OpenClaim := { program := "ytmbgmbheonpamaa", sum := "c5bc91b5e611d73e581cee2844300d3ae9b86ca841349f32177ca3e0e44e8f56", func := "pinfold/pinfoldlaw17.MountBack", spec := "mountBack", unfollowed := true, recurses := true, apart := false }
def MountBackSaid : Prop := mountBackRow.holds Try.pinned (OpenSpec.ofChange mountBackSpec)

/-- ITS FALSE NEIGHBOUR: 'it returns false'. Refute it at one input. -/
def mountBackWrong : ChangeSpec := { name := "mountBack", fn := fun _ => fun
  | [d1, d2] => { results := [.lit (.bool false)], args := [d1, d2] }
  | _ => none }
def MountBackWrongFalsely : Prop := mountBackRow.holds Try.pinned (OpenSpec.ofChange mountBackWrong)

/-- 'pinfoldlaw17.MountHeld': WHATEVER THE INPUT: true; the input reads as it did. -/
def mountHeldSpec : ChangeSpec := { name := "mountHeld", fn := fun _ => fun
  | [d1, d2, d3] => { results := [.lit (.bool true)], args := [d1, d2, d3] }
  | _ => none }
def mountHeldRow : OpenClaim := { program := "ytmbgmbheonpamaa", sum := "c5bc91b5e611d73e581cee2844300d3ae9b86ca841349f32177ca3e0e44e8f56", func := "pinfold/pinfoldlaw17.MountHeld", spec := "mountHeld", unfollowed := true, recurses := true, apart := false }
def MountHeldSaid : Prop := mountHeldRow.holds Try.pinned (OpenSpec.ofChange mountHeldSpec)

/-- ITS FALSE NEIGHBOUR: 'it returns false'. Refute it at one input. -/
def mountHeldWrong : ChangeSpec := { name := "mountHeld", fn := fun _ => fun
  | [d1, d2, d3] => { results := [.lit (.bool false)], args := [d1, d2, d3] }
  | _ => none }
def MountHeldWrongFalsely : Prop := mountHeldRow.holds Try.pinned (OpenSpec.ofChange mountHeldWrong)

/- THE SECOND FORM. 'bulk': how many values and letters a reading holds, each counted each time it is reached (what is shared counts as often as it is met; a slice's spare places count too). A statement '..UptoSaid' is the law's where the arguments, and the package variables that the reading takes, are together of bulk at most 1048576: NARROWER than '..Said'. Prove '..Said' where nothing that the law and all that it calls make is longer than what came in: it says more and counts as full. Else prove '..UptoSaid'. A law counts once. -/
mutual
def uptoBulk {H : Type} : DataW H → Nat
  | .lit (.string bytes) => bytes.length + 1
  | .lit _ => 1
  | .nil => 1
  | .ptr d => uptoBulk d + 1
  | .slice elems spare => uptoBulkAll elems + uptoBulkAll spare + 1
  | .agg parts => uptoBulkAll parts + 1
  | .iface _ d => uptoBulk d + 1
  | .map entries => uptoBulkEntries entries + 1
  | .held _ => 1
def uptoBulkAll {H : Type} : List (DataW H) → Nat
  | [] => 0
  | d :: r => uptoBulk d + uptoBulkAll r
def uptoBulkEntries {H : Type} : List (Lit × DataW H) → Nat
  | [] => 0
  | x :: r => uptoBulkEntry x + uptoBulkEntries r
def uptoBulkEntry {H : Type} : Lit × DataW H → Nat
  | (.string bytes, d) => bytes.length + uptoBulk d + 1
  | (_, d) => uptoBulk d + 1
 end
def uptoSmall : (H : Type) → List (DataW H) → Bool := fun _ ds => decide (uptoBulkAll ds ≤ 1048576)
def OpenSpec.upto (s : _root_.Go.ChangeSpec) : _root_.Go.OpenSpec := { _root_.Go.OpenSpec.ofChange s with cond := some uptoSmall }

/-- 'pinfoldlaw16.InodeDeep', WHERE WHAT IT READS IS OF BULK AT MOST 1048576: true; the input reads as it did. -/
def inodeDeepUptoRow : OpenClaim := { program := "ytmbgmbheonpamaa", sum := "c5bc91b5e611d73e581cee2844300d3ae9b86ca841349f32177ca3e0e44e8f56", func := "pinfold/pinfoldlaw16.InodeDeep", spec := "inodeDeep", recurses := true, apart := false, narrowed := true }
def InodeDeepUptoSaid : Prop := inodeDeepUptoRow.holds Try.pinned (OpenSpec.upto inodeDeepSpec)

/-- 'pinfoldlaw16.InodeSpots', WHERE WHAT IT READS IS OF BULK AT MOST 1048576: true; the input reads as it did. -/
def inodeSpotsUptoRow : OpenClaim := { program := "ytmbgmbheonpamaa", sum := "c5bc91b5e611d73e581cee2844300d3ae9b86ca841349f32177ca3e0e44e8f56", func := "pinfold/pinfoldlaw16.InodeSpots", spec := "inodeSpots", recurses := true, apart := false, narrowed := true }
def InodeSpotsUptoSaid : Prop := inodeSpotsUptoRow.holds Try.pinned (OpenSpec.upto inodeSpotsSpec)

/-- 'pinfoldlaw17.MountPlays', WHERE WHAT IT READS IS OF BULK AT MOST 1048576: true; the input reads as it did. -/
def mountPlaysUptoRow : OpenClaim := { program := "ytmbgmbheonpamaa", sum := "c5bc91b5e611d73e581cee2844300d3ae9b86ca841349f32177ca3e0e44e8f56", func := "pinfold/pinfoldlaw17.MountPlays", spec := "mountPlays", unfollowed := true, recurses := true, apart := false, narrowed := true }
def MountPlaysUptoSaid : Prop := mountPlaysUptoRow.holds Try.pinned (OpenSpec.upto mountPlaysSpec)

/-- 'pinfoldlaw17.MountBack', WHERE WHAT IT READS IS OF BULK AT MOST 1048576: true; the input reads as it did. -/
def mountBackUptoRow : OpenClaim := { program := "ytmbgmbheonpamaa", sum := "c5bc91b5e611d73e581cee2844300d3ae9b86ca841349f32177ca3e0e44e8f56", func := "pinfold/pinfoldlaw17.MountBack", spec := "mountBack", unfollowed := true, recurses := true, apart := false, narrowed := true }
def MountBackUptoSaid : Prop := mountBackUptoRow.holds Try.pinned (OpenSpec.upto mountBackSpec)

/-- 'pinfoldlaw17.MountHeld', WHERE WHAT IT READS IS OF BULK AT MOST 1048576: true; the input reads as it did. -/
def mountHeldUptoRow : OpenClaim := { program := "ytmbgmbheonpamaa", sum := "c5bc91b5e611d73e581cee2844300d3ae9b86ca841349f32177ca3e0e44e8f56", func := "pinfold/pinfoldlaw17.MountHeld", spec := "mountHeld", unfollowed := true, recurses := true, apart := false, narrowed := true }
def MountHeldUptoSaid : Prop := mountHeldUptoRow.holds Try.pinned (OpenSpec.upto mountHeldSpec)

end Rows
end Go.Proofs.Ytmbgmbheonpamaa
