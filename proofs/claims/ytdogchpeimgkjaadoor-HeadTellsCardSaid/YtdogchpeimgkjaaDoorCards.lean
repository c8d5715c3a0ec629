/-
  DERIVED. GIVEN WITH THE SEED: THE CARDS: each row of YtdogchpeimgkjaaDoorRows.lean that lists a variable, with what it lists TIED to the program's text (the seventh form; the later family's looks); each row that meets fmt, with fmt's text TOLD by the authors' own Lean function (tested against real Go, not proved from fmt's source: count such statements apart). THE CARD IS WHAT COUNTS. Prove the row's statement (the work); the ties are given (YtdogchpeimgkjaaDoorTie.lean); close each card by the builder's one call (the guide's Derived/Test/ToyasCard.lean, 'card_holds'). Laid BY PROGRAM, IN A SANDBOX (cutbox-door.mjs). By AI agents, Wed Nov 11 2026. No macro, syntax, notation, axiom, sorry.
-/
import Derived.Test.YtdogchpeimgkjaaDoorRows
import GoSem.ClaimSeven
namespace Go.Proofs.YtdogchpeimgkjaaDoor
namespace Rows

/-- THE TIED CARD OF 'tiercelaw06.HeadExact'. -/
def headExactCard : Claim7 := { stood := { row := headExactRow, standIns := [], harness := (true, "be93bd171fd399e95a1b84c2305869d74f479e74bd2f6bd48a56ea3d1ede5d47"), looks := false }, kinds := [], alts := [], laidByText := true, laidKinds := [.data], laidTests := true, laidLooks := .later }
def HeadExactCardSaid : Prop := Claim7.holds Tryd.pinned (.plain (OpenSpec.ofChange headExactSpec)) headExactCard

/-- THE TIED CARD OF 'tiercelaw06.HeadTells'. -/
def headTellsCard : Claim7 := { stood := { row := headTellsRow, standIns := [], harness := (true, "be93bd171fd399e95a1b84c2305869d74f479e74bd2f6bd48a56ea3d1ede5d47"), looks := false }, kinds := [], alts := [], laidByText := true, laidKinds := [.data], laidTests := true, laidLooks := .later }
def HeadTellsCardSaid : Prop := Claim7.holds Tryd.pinned (.plain (OpenSpec.ofChange headTellsSpec)) headTellsCard

/-- THE TIED CARD OF 'tiercelaw06.HeadTurns'. -/
def headTurnsCard : Claim7 := { stood := { row := headTurnsRow, standIns := [], harness := (true, "be93bd171fd399e95a1b84c2305869d74f479e74bd2f6bd48a56ea3d1ede5d47"), looks := false }, kinds := [], alts := [], laidByText := true, laidKinds := [.data], laidTests := true, laidLooks := .later }
def HeadTurnsCardSaid : Prop := Claim7.holds Tryd.pinned (.plain (OpenSpec.ofChange headTurnsSpec)) headTurnsCard

/-- THE SECOND FORM's CARD OF 'tiercelaw06.HeadExact'. -/
def headExactUptoCard : Claim7 := { stood := { row := headExactUptoRow, standIns := [], harness := (true, "be93bd171fd399e95a1b84c2305869d74f479e74bd2f6bd48a56ea3d1ede5d47"), looks := false }, kinds := [], alts := [], laidByText := true, laidKinds := [.data], laidTests := true, laidLooks := .later }
def HeadExactUptoCardSaid : Prop := Claim7.holds Tryd.pinned (.plain (OpenSpec.upto headExactSpec)) headExactUptoCard

/-- THE SECOND FORM's CARD OF 'tiercelaw06.HeadTells'. -/
def headTellsUptoCard : Claim7 := { stood := { row := headTellsUptoRow, standIns := [], harness := (true, "be93bd171fd399e95a1b84c2305869d74f479e74bd2f6bd48a56ea3d1ede5d47"), looks := false }, kinds := [], alts := [], laidByText := true, laidKinds := [.data], laidTests := true, laidLooks := .later }
def HeadTellsUptoCardSaid : Prop := Claim7.holds Tryd.pinned (.plain (OpenSpec.upto headTellsSpec)) headTellsUptoCard

/-- THE SECOND FORM's CARD OF 'tiercelaw06.HeadTurns'. -/
def headTurnsUptoCard : Claim7 := { stood := { row := headTurnsUptoRow, standIns := [], harness := (true, "be93bd171fd399e95a1b84c2305869d74f479e74bd2f6bd48a56ea3d1ede5d47"), looks := false }, kinds := [], alts := [], laidByText := true, laidKinds := [.data], laidTests := true, laidLooks := .later }
def HeadTurnsUptoCardSaid : Prop := Claim7.holds Tryd.pinned (.plain (OpenSpec.upto headTurnsSpec)) headTurnsUptoCard
end Rows
end Go.Proofs.YtdogchpeimgkjaaDoor
