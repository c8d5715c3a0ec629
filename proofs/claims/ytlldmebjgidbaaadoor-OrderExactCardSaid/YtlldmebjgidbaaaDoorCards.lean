/-
  DERIVED. GIVEN WITH THE SEED: THE CARDS: each row of YtlldmebjgidbaaaDoorRows.lean that lists a variable, with what it lists TIED to the program's text (the seventh form; the later family's looks); each row that meets fmt, with fmt's text TOLD by the authors' own Lean function (tested against real Go, not proved from fmt's source: count such statements apart). THE CARD IS WHAT COUNTS. Prove the row's statement (the work); the ties are given (YtlldmebjgidbaaaDoorTie.lean); close each card by the builder's one call (the guide's Derived/Test/ToyasCard.lean, 'card_holds'). Laid BY PROGRAM, IN A SANDBOX (cutbox-door.mjs). By AI agents, Wed Nov 11 2026. No macro, syntax, notation, axiom, sorry.
-/
import Derived.Test.YtlldmebjgidbaaaDoorRows
import GoSem.ClaimSeven
namespace Go.Proofs.YtlldmebjgidbaaaDoor
namespace Rows

/-- THE TIED CARD OF 'tiercelaw20.OrderExact'. -/
def orderExactCard : Claim7 := { stood := { row := orderExactRow, standIns := [], harness := (true, "80c6b4f7d94806d2380016c40ef81ae9095d75874cb9a82874f417dddfd5c21d"), looks := true }, kinds := [], alts := [], laidByText := true, laidKinds := [.data, .data, .data, .data, .pinned], laidTests := true, laidLooks := .later }
def OrderExactCardSaid : Prop := Claim7.holds Tryd.pinned (.plain (OpenSpec.ofChange orderExactSpec)) orderExactCard

/-- THE SECOND FORM's CARD OF 'tiercelaw20.OrderExact'. -/
def orderExactUptoCard : Claim7 := { stood := { row := orderExactUptoRow, standIns := [], harness := (true, "80c6b4f7d94806d2380016c40ef81ae9095d75874cb9a82874f417dddfd5c21d"), looks := true }, kinds := [], alts := [], laidByText := true, laidKinds := [.data, .data, .data, .data, .pinned], laidTests := true, laidLooks := .later }
def OrderExactUptoCardSaid : Prop := Claim7.holds Tryd.pinned (.plain (OpenSpec.upto orderExactSpec)) orderExactUptoCard
end Rows
end Go.Proofs.YtlldmebjgidbaaaDoor
