/-
  DERIVED. GIVEN WITH THE SEED: THE CARDS: each row of YtaahgdmlacpjbaaDoorRows.lean that lists a variable, with what it lists TIED to the program's text (the seventh form; the later family's looks); each row that meets fmt, with fmt's text TOLD by the authors' own Lean function (tested against real Go, not proved from fmt's source: count such statements apart). THE CARD IS WHAT COUNTS. Prove the row's statement (the work); the ties are given (YtaahgdmlacpjbaaDoorTie.lean); close each card by the builder's one call (the guide's Derived/Test/ToyasCard.lean, 'card_holds'). Laid BY PROGRAM, IN A SANDBOX (cutbox-door.mjs). By AI agents, Wed Nov 11 2026. No macro, syntax, notation, axiom, sorry.
-/
import Derived.Test.YtaahgdmlacpjbaaDoorRows
import GoSem.ClaimSeven
namespace Go.Proofs.YtaahgdmlacpjbaaDoor
namespace Rows

/-- THE TIED CARD OF 'tiercelaw05.LeafExact'. -/
def leafExactCard : Claim7 := { stood := { row := leafExactRow, standIns := [], harness := (true, "a22fe5ac37f43e00519987e5aa2285831c1f2d05733a0af242223fdfdff5a906"), looks := false }, kinds := [], alts := [], laidByText := true, laidKinds := [.data, .data, .pinned], laidTests := true, laidLooks := .later }
def LeafExactCardSaid : Prop := Claim7.holds Tryd.pinned (.plain (OpenSpec.ofChange leafExactSpec)) leafExactCard

/-- THE TIED CARD OF 'tiercelaw05.LeafFinds'. -/
def leafFindsCard : Claim7 := { stood := { row := leafFindsRow, standIns := [], harness := (true, "a22fe5ac37f43e00519987e5aa2285831c1f2d05733a0af242223fdfdff5a906"), looks := false }, kinds := [], alts := [], laidByText := true, laidKinds := [.data, .data, .pinned], laidTests := true, laidLooks := .later }
def LeafFindsCardSaid : Prop := Claim7.holds Tryd.pinned (.plain (OpenSpec.ofChange leafFindsSpec)) leafFindsCard

/-- THE TIED CARD OF 'tiercelaw05.LeafBack'. -/
def leafBackCard : Claim7 := { stood := { row := leafBackRow, standIns := [], harness := (true, "a22fe5ac37f43e00519987e5aa2285831c1f2d05733a0af242223fdfdff5a906"), looks := false }, kinds := [], alts := [], laidByText := true, laidKinds := [.data, .data, .pinned], laidTests := true, laidLooks := .later }
def LeafBackCardSaid : Prop := Claim7.holds Tryd.pinned (.plain (OpenSpec.ofChange leafBackSpec)) leafBackCard

/-- THE SECOND FORM's CARD OF 'tiercelaw05.LeafExact'. -/
def leafExactUptoCard : Claim7 := { stood := { row := leafExactUptoRow, standIns := [], harness := (true, "a22fe5ac37f43e00519987e5aa2285831c1f2d05733a0af242223fdfdff5a906"), looks := false }, kinds := [], alts := [], laidByText := true, laidKinds := [.data, .data, .pinned], laidTests := true, laidLooks := .later }
def LeafExactUptoCardSaid : Prop := Claim7.holds Tryd.pinned (.plain (OpenSpec.upto leafExactSpec)) leafExactUptoCard

/-- THE SECOND FORM's CARD OF 'tiercelaw05.LeafFinds'. -/
def leafFindsUptoCard : Claim7 := { stood := { row := leafFindsUptoRow, standIns := [], harness := (true, "a22fe5ac37f43e00519987e5aa2285831c1f2d05733a0af242223fdfdff5a906"), looks := false }, kinds := [], alts := [], laidByText := true, laidKinds := [.data, .data, .pinned], laidTests := true, laidLooks := .later }
def LeafFindsUptoCardSaid : Prop := Claim7.holds Tryd.pinned (.plain (OpenSpec.upto leafFindsSpec)) leafFindsUptoCard

/-- THE SECOND FORM's CARD OF 'tiercelaw05.LeafBack'. -/
def leafBackUptoCard : Claim7 := { stood := { row := leafBackUptoRow, standIns := [], harness := (true, "a22fe5ac37f43e00519987e5aa2285831c1f2d05733a0af242223fdfdff5a906"), looks := false }, kinds := [], alts := [], laidByText := true, laidKinds := [.data, .data, .pinned], laidTests := true, laidLooks := .later }
def LeafBackUptoCardSaid : Prop := Claim7.holds Tryd.pinned (.plain (OpenSpec.upto leafBackSpec)) leafBackUptoCard
end Rows
end Go.Proofs.YtaahgdmlacpjbaaDoor
