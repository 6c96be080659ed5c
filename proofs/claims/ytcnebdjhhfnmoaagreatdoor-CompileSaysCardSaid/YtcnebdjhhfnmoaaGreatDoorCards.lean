/-
  DERIVED. GIVEN WITH THE SEED: THE CARDS: each row of YtcnebdjhhfnmoaaGreatDoorRows.lean that lists a variable, with what it lists TIED to the program's text (the seventh form; the later family's looks); each row that meets fmt, with fmt's text TOLD by the authors' own Lean function (tested against real Go, not proved from fmt's source: count such statements apart). THE CARD IS WHAT COUNTS. Prove the row's statement (the work); the ties are given (YtcnebdjhhfnmoaaGreatDoorTie.lean); close each card by the builder's one call (the guide's Derived/Test/ToyasCard.lean, 'card_holds'). Laid BY PROGRAM, IN A SANDBOX (cutbox-door.mjs). By AI agents, Wed Nov 11 2026. No macro, syntax, notation, axiom, sorry.
-/
import Derived.Test.YtcnebdjhhfnmoaaGreatDoorRows
import GoSem.ClaimSeven
namespace Go.Proofs.YtcnebdjhhfnmoaaGreatDoor
namespace Rows

/-- THE TIED CARD OF 'pinfoldlaw15.CompileSays'. -/
def compileSaysCard : Claim7 := { stood := { row := compileSaysRow, standIns := [], harness := (true, "175fec56c7c5411b70cafd5837be9d31433d7e231762258869b8c45358e94161"), looks := false }, kinds := [], alts := [], laidByText := true, laidKinds := [.data, .pinned], laidTests := true, laidLooks := .later }
def CompileSaysCardSaid : Prop := Claim7.holds Tryz.pinned (.plain (OpenSpec.ofChange compileSaysSpec)) compileSaysCard

/-- THE TIED CARD OF 'pinfoldlaw15.CompilePeeps'. -/
def compilePeepsCard : Claim7 := { stood := { row := compilePeepsRow, standIns := [], harness := (true, "175fec56c7c5411b70cafd5837be9d31433d7e231762258869b8c45358e94161"), looks := false }, kinds := [], alts := [], laidByText := true, laidKinds := [.data, .pinned], laidTests := true, laidLooks := .later }
def CompilePeepsCardSaid : Prop := Claim7.holds Tryz.pinned (.plain (OpenSpec.ofChange compilePeepsSpec)) compilePeepsCard

/-- THE TIED CARD OF 'pinfoldlaw15.CompileEdges'. -/
def compileEdgesCard : Claim7 := { stood := { row := compileEdgesRow, standIns := [], harness := (true, "175fec56c7c5411b70cafd5837be9d31433d7e231762258869b8c45358e94161"), looks := false }, kinds := [], alts := [], laidByText := true, laidKinds := [.data, .pinned], laidTests := true, laidLooks := .later }
def CompileEdgesCardSaid : Prop := Claim7.holds Tryz.pinned (.plain (OpenSpec.ofChange compileEdgesSpec)) compileEdgesCard

/-- THE TIED CARD OF 'pinfoldlaw15.CompileOthers'. -/
def compileOthersCard : Claim7 := { stood := { row := compileOthersRow, standIns := [], harness := (true, "175fec56c7c5411b70cafd5837be9d31433d7e231762258869b8c45358e94161"), looks := false }, kinds := [], alts := [], laidByText := true, laidKinds := [.data, .pinned], laidTests := true, laidLooks := .later }
def CompileOthersCardSaid : Prop := Claim7.holds Tryz.pinned (.plain (OpenSpec.ofChange compileOthersSpec)) compileOthersCard

/-- THE SECOND FORM's CARD OF 'pinfoldlaw15.CompileSays'. -/
def compileSaysUptoCard : Claim7 := { stood := { row := compileSaysUptoRow, standIns := [], harness := (true, "175fec56c7c5411b70cafd5837be9d31433d7e231762258869b8c45358e94161"), looks := false }, kinds := [], alts := [], laidByText := true, laidKinds := [.data, .pinned], laidTests := true, laidLooks := .later }
def CompileSaysUptoCardSaid : Prop := Claim7.holds Tryz.pinned (.plain (OpenSpec.upto compileSaysSpec)) compileSaysUptoCard

/-- THE SECOND FORM's CARD OF 'pinfoldlaw15.CompilePeeps'. -/
def compilePeepsUptoCard : Claim7 := { stood := { row := compilePeepsUptoRow, standIns := [], harness := (true, "175fec56c7c5411b70cafd5837be9d31433d7e231762258869b8c45358e94161"), looks := false }, kinds := [], alts := [], laidByText := true, laidKinds := [.data, .pinned], laidTests := true, laidLooks := .later }
def CompilePeepsUptoCardSaid : Prop := Claim7.holds Tryz.pinned (.plain (OpenSpec.upto compilePeepsSpec)) compilePeepsUptoCard

/-- THE SECOND FORM's CARD OF 'pinfoldlaw15.CompileEdges'. -/
def compileEdgesUptoCard : Claim7 := { stood := { row := compileEdgesUptoRow, standIns := [], harness := (true, "175fec56c7c5411b70cafd5837be9d31433d7e231762258869b8c45358e94161"), looks := false }, kinds := [], alts := [], laidByText := true, laidKinds := [.data, .pinned], laidTests := true, laidLooks := .later }
def CompileEdgesUptoCardSaid : Prop := Claim7.holds Tryz.pinned (.plain (OpenSpec.upto compileEdgesSpec)) compileEdgesUptoCard

/-- THE SECOND FORM's CARD OF 'pinfoldlaw15.CompileOthers'. -/
def compileOthersUptoCard : Claim7 := { stood := { row := compileOthersUptoRow, standIns := [], harness := (true, "175fec56c7c5411b70cafd5837be9d31433d7e231762258869b8c45358e94161"), looks := false }, kinds := [], alts := [], laidByText := true, laidKinds := [.data, .pinned], laidTests := true, laidLooks := .later }
def CompileOthersUptoCardSaid : Prop := Claim7.holds Tryz.pinned (.plain (OpenSpec.upto compileOthersSpec)) compileOthersUptoCard
end Rows
end Go.Proofs.YtcnebdjhhfnmoaaGreatDoor
