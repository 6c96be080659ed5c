/-
  DERIVED. GIVEN WITH THE SEED: THE CARDS: each row of YtonpakndocgndaaDoorRows.lean that lists a variable, with what it lists TIED to the program's text (the seventh form; the later family's looks); each row that meets fmt, with fmt's text TOLD by the authors' own Lean function (tested against real Go, not proved from fmt's source: count such statements apart). THE CARD IS WHAT COUNTS. Prove the row's statement (the work); the ties are given (YtonpakndocgndaaDoorTie.lean); close each card by the builder's one call (the guide's Derived/Test/ToyasCard.lean, 'card_holds'). Laid BY PROGRAM, IN A SANDBOX (cutbox-door.mjs). By AI agents, Wed Nov 11 2026. No macro, syntax, notation, axiom, sorry.
-/
import Derived.Test.YtonpakndocgndaaDoorRows
import GoSem.ClaimSeven
namespace Go.Proofs.YtonpakndocgndaaDoor
namespace Rows

/-- THE TIED CARD OF 'pinfoldlaw09.PolicyPaths'. -/
def policyPathsCard : Claim7 := { stood := { row := policyPathsRow, standIns := [], harness := (true, "a2f2c6e430d0aab1f9591eb21dcd34bad29948ca9fcddfdfd47cb172a8061b69"), looks := false }, kinds := [], alts := [], laidByText := true, laidKinds := [.data, .data, .data, .data, .data, .pinned], laidTests := true, laidLooks := .later }
def PolicyPathsCardSaid : Prop := Claim7.holds Tryd.pinned (.plain (OpenSpec.ofChange policyPathsSpec)) policyPathsCard

/-- THE SECOND FORM's CARD OF 'pinfoldlaw09.PolicyPaths'. -/
def policyPathsUptoCard : Claim7 := { stood := { row := policyPathsUptoRow, standIns := [], harness := (true, "a2f2c6e430d0aab1f9591eb21dcd34bad29948ca9fcddfdfd47cb172a8061b69"), looks := false }, kinds := [], alts := [], laidByText := true, laidKinds := [.data, .data, .data, .data, .data, .pinned], laidTests := true, laidLooks := .later }
def PolicyPathsUptoCardSaid : Prop := Claim7.holds Tryd.pinned (.plain (OpenSpec.upto policyPathsSpec)) policyPathsUptoCard
end Rows
end Go.Proofs.YtonpakndocgndaaDoor
