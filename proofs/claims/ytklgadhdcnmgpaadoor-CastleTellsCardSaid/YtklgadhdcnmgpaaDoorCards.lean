/-
  DERIVED. GIVEN WITH THE SEED: THE CARDS: each row of YtklgadhdcnmgpaaDoorRows.lean that lists a variable, with what it lists TIED to the program's text (the seventh form; the later family's looks); each row that meets fmt, with fmt's text TOLD by the authors' own Lean function (tested against real Go, not proved from fmt's source: count such statements apart). THE CARD IS WHAT COUNTS. Prove the row's statement (the work); the ties are given (YtklgadhdcnmgpaaDoorTie.lean); close each card by the builder's one call (the guide's Derived/Test/ToyasCard.lean, 'card_holds'). Laid BY PROGRAM, IN A SANDBOX (cutbox-door.mjs). By AI agents, Wed Nov 11 2026. No macro, syntax, notation, axiom, sorry.
-/
import Derived.Test.YtklgadhdcnmgpaaDoorRows
import GoSem.ClaimSeven
namespace Go.Proofs.YtklgadhdcnmgpaaDoor
namespace Rows

/-- THE TIED CARD OF 'tiercelaw02.CastleExact'. -/
def castleExactCard : Claim7 := { stood := { row := castleExactRow, standIns := [], harness := (true, "4825ee4888e50fc9037ce2ed2b80c6576c9e45a8580391416b780a2843e98afc"), looks := false }, kinds := [], alts := [], laidByText := true, laidKinds := [.data], laidTests := true, laidLooks := .later }
def CastleExactCardSaid : Prop := Claim7.holds Tryd.pinned (.plain (OpenSpec.ofChange castleExactSpec)) castleExactCard

/-- THE TIED CARD OF 'tiercelaw02.CastleTells'. -/
def castleTellsCard : Claim7 := { stood := { row := castleTellsRow, standIns := [], harness := (true, "4825ee4888e50fc9037ce2ed2b80c6576c9e45a8580391416b780a2843e98afc"), looks := false }, kinds := [], alts := [], laidByText := true, laidKinds := [.data], laidTests := true, laidLooks := .later }
def CastleTellsCardSaid : Prop := Claim7.holds Tryd.pinned (.plain (OpenSpec.ofChange castleTellsSpec)) castleTellsCard

/-- THE TIED CARD OF 'tiercelaw02.CastleParts'. -/
def castlePartsCard : Claim7 := { stood := { row := castlePartsRow, standIns := [], harness := (true, "4825ee4888e50fc9037ce2ed2b80c6576c9e45a8580391416b780a2843e98afc"), looks := false }, kinds := [], alts := [], laidByText := true, laidKinds := [.data], laidTests := true, laidLooks := .later }
def CastlePartsCardSaid : Prop := Claim7.holds Tryd.pinned (.plain (OpenSpec.ofChange castlePartsSpec)) castlePartsCard

/-- THE SECOND FORM's CARD OF 'tiercelaw02.CastleExact'. -/
def castleExactUptoCard : Claim7 := { stood := { row := castleExactUptoRow, standIns := [], harness := (true, "4825ee4888e50fc9037ce2ed2b80c6576c9e45a8580391416b780a2843e98afc"), looks := false }, kinds := [], alts := [], laidByText := true, laidKinds := [.data], laidTests := true, laidLooks := .later }
def CastleExactUptoCardSaid : Prop := Claim7.holds Tryd.pinned (.plain (OpenSpec.upto castleExactSpec)) castleExactUptoCard

/-- THE SECOND FORM's CARD OF 'tiercelaw02.CastleTells'. -/
def castleTellsUptoCard : Claim7 := { stood := { row := castleTellsUptoRow, standIns := [], harness := (true, "4825ee4888e50fc9037ce2ed2b80c6576c9e45a8580391416b780a2843e98afc"), looks := false }, kinds := [], alts := [], laidByText := true, laidKinds := [.data], laidTests := true, laidLooks := .later }
def CastleTellsUptoCardSaid : Prop := Claim7.holds Tryd.pinned (.plain (OpenSpec.upto castleTellsSpec)) castleTellsUptoCard

/-- THE SECOND FORM's CARD OF 'tiercelaw02.CastleParts'. -/
def castlePartsUptoCard : Claim7 := { stood := { row := castlePartsUptoRow, standIns := [], harness := (true, "4825ee4888e50fc9037ce2ed2b80c6576c9e45a8580391416b780a2843e98afc"), looks := false }, kinds := [], alts := [], laidByText := true, laidKinds := [.data], laidTests := true, laidLooks := .later }
def CastlePartsUptoCardSaid : Prop := Claim7.holds Tryd.pinned (.plain (OpenSpec.upto castlePartsSpec)) castlePartsUptoCard
end Rows
end Go.Proofs.YtklgadhdcnmgpaaDoor
