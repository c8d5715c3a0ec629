/-
  DERIVED. GIVEN WITH THE SEED: THE CARDS: each row of YtifealfkcfcbeaaDoorRows.lean that lists a variable, with what it lists TIED to the program's text (the seventh form; the later family's looks); each row that meets fmt, with fmt's text TOLD by the authors' own Lean function (tested against real Go, not proved from fmt's source: count such statements apart). THE CARD IS WHAT COUNTS. Prove the row's statement (the work); the ties are given (YtifealfkcfcbeaaDoorTie.lean); close each card by the builder's one call (the guide's Derived/Test/ToyasCard.lean, 'card_holds'). Laid BY PROGRAM, IN A SANDBOX (cutbox-door.mjs). By AI agents, Wed Nov 11 2026. No macro, syntax, notation, axiom, sorry.
-/
import Derived.Test.YtifealfkcfcbeaaDoorRows
import GoSem.ClaimSeven
namespace Go.Proofs.YtifealfkcfcbeaaDoor
namespace Rows

/-- THE TIED CARD OF 'tiercelaw01.OctetWrites'. -/
def octetWritesCard : Claim7 := { stood := { row := octetWritesRow, standIns := [], harness := (true, "b0bffb3125aa9f2d50d01a2b8df81b51dc9153d3ec3215bfad614fb31ae014a7"), looks := false }, kinds := [], alts := [], laidByText := true, laidKinds := [.data, .pinned], laidTests := true, laidLooks := .later }
def OctetWritesCardSaid : Prop := Claim7.holds Tryd.pinned (.plain (OpenSpec.ofChange octetWritesSpec)) octetWritesCard

/-- THE TIED CARD OF 'tiercelaw01.OctetReads'. -/
def octetReadsCard : Claim7 := { stood := { row := octetReadsRow, standIns := [], harness := (true, "b0bffb3125aa9f2d50d01a2b8df81b51dc9153d3ec3215bfad614fb31ae014a7"), looks := false }, kinds := [], alts := [], laidByText := true, laidKinds := [.data, .pinned], laidTests := true, laidLooks := .later }
def OctetReadsCardSaid : Prop := Claim7.holds Tryd.pinned (.plain (OpenSpec.ofChange octetReadsSpec)) octetReadsCard

/-- THE TIED CARD OF 'tiercelaw01.OctetBack'. -/
def octetBackCard : Claim7 := { stood := { row := octetBackRow, standIns := [], harness := (true, "b0bffb3125aa9f2d50d01a2b8df81b51dc9153d3ec3215bfad614fb31ae014a7"), looks := false }, kinds := [], alts := [], laidByText := true, laidKinds := [.data, .pinned], laidTests := true, laidLooks := .later }
def OctetBackCardSaid : Prop := Claim7.holds Tryd.pinned (.plain (OpenSpec.ofChange octetBackSpec)) octetBackCard

/-- THE TIED CARD OF 'tiercelaw01.OctetApart'. -/
def octetApartCard : Claim7 := { stood := { row := octetApartRow, standIns := [], harness := (true, "b0bffb3125aa9f2d50d01a2b8df81b51dc9153d3ec3215bfad614fb31ae014a7"), looks := false }, kinds := [], alts := [], laidByText := true, laidKinds := [.data, .pinned], laidTests := true, laidLooks := .later }
def OctetApartCardSaid : Prop := Claim7.holds Tryd.pinned (.plain (OpenSpec.ofChange octetApartSpec)) octetApartCard

/-- THE SECOND FORM's CARD OF 'tiercelaw01.OctetWrites'. -/
def octetWritesUptoCard : Claim7 := { stood := { row := octetWritesUptoRow, standIns := [], harness := (true, "b0bffb3125aa9f2d50d01a2b8df81b51dc9153d3ec3215bfad614fb31ae014a7"), looks := false }, kinds := [], alts := [], laidByText := true, laidKinds := [.data, .pinned], laidTests := true, laidLooks := .later }
def OctetWritesUptoCardSaid : Prop := Claim7.holds Tryd.pinned (.plain (OpenSpec.upto octetWritesSpec)) octetWritesUptoCard

/-- THE SECOND FORM's CARD OF 'tiercelaw01.OctetReads'. -/
def octetReadsUptoCard : Claim7 := { stood := { row := octetReadsUptoRow, standIns := [], harness := (true, "b0bffb3125aa9f2d50d01a2b8df81b51dc9153d3ec3215bfad614fb31ae014a7"), looks := false }, kinds := [], alts := [], laidByText := true, laidKinds := [.data, .pinned], laidTests := true, laidLooks := .later }
def OctetReadsUptoCardSaid : Prop := Claim7.holds Tryd.pinned (.plain (OpenSpec.upto octetReadsSpec)) octetReadsUptoCard

/-- THE SECOND FORM's CARD OF 'tiercelaw01.OctetBack'. -/
def octetBackUptoCard : Claim7 := { stood := { row := octetBackUptoRow, standIns := [], harness := (true, "b0bffb3125aa9f2d50d01a2b8df81b51dc9153d3ec3215bfad614fb31ae014a7"), looks := false }, kinds := [], alts := [], laidByText := true, laidKinds := [.data, .pinned], laidTests := true, laidLooks := .later }
def OctetBackUptoCardSaid : Prop := Claim7.holds Tryd.pinned (.plain (OpenSpec.upto octetBackSpec)) octetBackUptoCard

/-- THE SECOND FORM's CARD OF 'tiercelaw01.OctetApart'. -/
def octetApartUptoCard : Claim7 := { stood := { row := octetApartUptoRow, standIns := [], harness := (true, "b0bffb3125aa9f2d50d01a2b8df81b51dc9153d3ec3215bfad614fb31ae014a7"), looks := false }, kinds := [], alts := [], laidByText := true, laidKinds := [.data, .pinned], laidTests := true, laidLooks := .later }
def OctetApartUptoCardSaid : Prop := Claim7.holds Tryd.pinned (.plain (OpenSpec.upto octetApartSpec)) octetApartUptoCard
end Rows
end Go.Proofs.YtifealfkcfcbeaaDoor
