/-
  DERIVED. GIVEN WITH THE SEED: THE CARDS: each row of YtipalcllmbmhfaaDoorRows.lean that lists a variable, with what it lists TIED to the program's text (the seventh form; the later family's looks); each row that meets fmt, with fmt's text TOLD by the authors' own Lean function (tested against real Go, not proved from fmt's source: count such statements apart). THE CARD IS WHAT COUNTS. Prove the row's statement (the work); the ties are given (YtipalcllmbmhfaaDoorTie.lean); close each card by the builder's one call (the guide's Derived/Test/ToyasCard.lean, 'card_holds'). Laid BY PROGRAM, IN A SANDBOX (cutbox-door.mjs). By AI agents, Wed Nov 11 2026. No macro, syntax, notation, axiom, sorry.
-/
import Derived.Test.YtipalcllmbmhfaaDoorRows
import GoSem.ClaimSeven
namespace Go.Proofs.YtipalcllmbmhfaaDoor
namespace Rows

/-- THE TIED CARD OF 'tiercelaw20.OrderExact'. -/
def orderExactCard : Claim7 := { stood := { row := orderExactRow, standIns := [], harness := (true, "7485ea90a1dc73e62445ca52ed7ae689d8f0ab776571fe04635225719fbaacba"), looks := true }, kinds := [], alts := [], laidByText := true, laidKinds := [.data, .data, .data, .data, .pinned], laidTests := true, laidLooks := .later }
def OrderExactCardSaid : Prop := Claim7.holds Tryd.pinned (.plain (OpenSpec.ofChange orderExactSpec)) orderExactCard

/-- THE TIED CARD OF 'tiercelaw20.OrderParts'. -/
def orderPartsCard : Claim7 := { stood := { row := orderPartsRow, standIns := [], harness := (true, "7485ea90a1dc73e62445ca52ed7ae689d8f0ab776571fe04635225719fbaacba"), looks := true }, kinds := [], alts := [], laidByText := true, laidKinds := [.data, .data, .data, .data, .pinned], laidTests := true, laidLooks := .later }
def OrderPartsCardSaid : Prop := Claim7.holds Tryd.pinned (.plain (OpenSpec.ofChange orderPartsSpec)) orderPartsCard

/-- THE TIED CARD OF 'tiercelaw20.OrderBack'. -/
def orderBackCard : Claim7 := { stood := { row := orderBackRow, standIns := [], harness := (true, "7485ea90a1dc73e62445ca52ed7ae689d8f0ab776571fe04635225719fbaacba"), looks := true }, kinds := [], alts := [], laidByText := true, laidKinds := [.data, .data, .data, .data, .pinned], laidTests := true, laidLooks := .later }
def OrderBackCardSaid : Prop := Claim7.holds Tryd.pinned (.plain (OpenSpec.ofChange orderBackSpec)) orderBackCard

/-- THE TIED CARD OF 'tiercelaw20.OrderWide'. -/
def orderWideCard : Claim7 := { stood := { row := orderWideRow, standIns := [], harness := (true, "7485ea90a1dc73e62445ca52ed7ae689d8f0ab776571fe04635225719fbaacba"), looks := true }, kinds := [], alts := [], laidByText := true, laidKinds := [.data, .data, .data, .data, .pinned], laidTests := true, laidLooks := .later }
def OrderWideCardSaid : Prop := Claim7.holds Tryd.pinned (.plain (OpenSpec.ofChange orderWideSpec)) orderWideCard

/-- THE SECOND FORM's CARD OF 'tiercelaw20.OrderExact'. -/
def orderExactUptoCard : Claim7 := { stood := { row := orderExactUptoRow, standIns := [], harness := (true, "7485ea90a1dc73e62445ca52ed7ae689d8f0ab776571fe04635225719fbaacba"), looks := true }, kinds := [], alts := [], laidByText := true, laidKinds := [.data, .data, .data, .data, .pinned], laidTests := true, laidLooks := .later }
def OrderExactUptoCardSaid : Prop := Claim7.holds Tryd.pinned (.plain (OpenSpec.upto orderExactSpec)) orderExactUptoCard

/-- THE SECOND FORM's CARD OF 'tiercelaw20.OrderParts'. -/
def orderPartsUptoCard : Claim7 := { stood := { row := orderPartsUptoRow, standIns := [], harness := (true, "7485ea90a1dc73e62445ca52ed7ae689d8f0ab776571fe04635225719fbaacba"), looks := true }, kinds := [], alts := [], laidByText := true, laidKinds := [.data, .data, .data, .data, .pinned], laidTests := true, laidLooks := .later }
def OrderPartsUptoCardSaid : Prop := Claim7.holds Tryd.pinned (.plain (OpenSpec.upto orderPartsSpec)) orderPartsUptoCard

/-- THE SECOND FORM's CARD OF 'tiercelaw20.OrderBack'. -/
def orderBackUptoCard : Claim7 := { stood := { row := orderBackUptoRow, standIns := [], harness := (true, "7485ea90a1dc73e62445ca52ed7ae689d8f0ab776571fe04635225719fbaacba"), looks := true }, kinds := [], alts := [], laidByText := true, laidKinds := [.data, .data, .data, .data, .pinned], laidTests := true, laidLooks := .later }
def OrderBackUptoCardSaid : Prop := Claim7.holds Tryd.pinned (.plain (OpenSpec.upto orderBackSpec)) orderBackUptoCard

/-- THE SECOND FORM's CARD OF 'tiercelaw20.OrderWide'. -/
def orderWideUptoCard : Claim7 := { stood := { row := orderWideUptoRow, standIns := [], harness := (true, "7485ea90a1dc73e62445ca52ed7ae689d8f0ab776571fe04635225719fbaacba"), looks := true }, kinds := [], alts := [], laidByText := true, laidKinds := [.data, .data, .data, .data, .pinned], laidTests := true, laidLooks := .later }
def OrderWideUptoCardSaid : Prop := Claim7.holds Tryd.pinned (.plain (OpenSpec.upto orderWideSpec)) orderWideUptoCard
end Rows
end Go.Proofs.YtipalcllmbmhfaaDoor
