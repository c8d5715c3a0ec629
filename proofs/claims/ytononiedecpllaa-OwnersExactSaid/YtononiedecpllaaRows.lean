/-
  No cell of these rows narrows 'for every input' (looked for: loops, veiled, ifaces, maps, wideKeys, modest, calm, conditions, laid).
  DERIVED. THE GIVEN ROWS OF THIS SEAT. 3 by the template 'for every input the law returns true; each argument reads behind the call as it read before'; 0 by the template 'total and deterministic' (their statements: YtononiedecpllaaTotals.lean).
  GIVEN WITH THE SEED: the statements are not yours to turn. If you find one false, say at which input.
  Laid BY PROGRAM, IN A SANDBOX (cutbox-rows.mjs): the forced cells as the released guide's own fill.sh prints them over the translation db708a4201ad7f21… (all of the seat's roots in one cut). By AI agents, Wed Nov 11 2026. No macro, syntax, notation, axiom, sorry.
-/
import Derived.Test.YtononiedecpllaaChecked
import GoSem.Claim
import GoSem.ClaimJoined
import GoSem.ClaimMapViews
import Derived.JoinedTies
import Derived.KernelRfl
namespace Go.Proofs.Ytononiedecpllaa
/- THE CELL 'sum', in the pinned program and in every row, IS THE sha256 OF THE DUMP (.gsa) THAT YtononiedecpllaaProg.lean LOADS. Nothing in Lean hashes anything: it is a label: what it is worth is what the hold of that sum in a sandbox is worth. -/
noncomputable def Try.pinned : Pinned := { name := "ytononiedecpllaa", sum := "db708a4201ad7f2151017e3d3fd5fb8ec0681056fdaee1ec754e434103b53980", checked := Try.checked }
namespace Rows
def none {H : Type} : Left H := { results := [], args := [] }

/-- 'tiercelaw13.OwnersExact': WHATEVER THE INPUT: true; the input reads as it did. -/
def ownersExactSpec : ChangeSpec := { name := "ownersExact", fn := fun _ => fun
  | [d] => { results := [.lit (.bool true)], args := [d] }
  | _ => none }
def ownersExactRow : OpenClaim := { program := "ytononiedecpllaa", sum := "db708a4201ad7f2151017e3d3fd5fb8ec0681056fdaee1ec754e434103b53980", func := "tierce/tiercelaw13.OwnersExact", spec := "ownersExact", inPlace := ["slices.overlaps[tierce/api.Owner]"], unfollowed := true, recurses := true, apart := false }
def OwnersExactSaid : Prop := ownersExactRow.holds Try.pinned (OpenSpec.ofChange ownersExactSpec)

/-- ITS FALSE NEIGHBOUR: 'it returns false'. Refute it at one input. -/
def ownersExactWrong : ChangeSpec := { name := "ownersExact", fn := fun _ => fun
  | [d] => { results := [.lit (.bool false)], args := [d] }
  | _ => none }
def OwnersExactWrongFalsely : Prop := ownersExactRow.holds Try.pinned (OpenSpec.ofChange ownersExactWrong)

/-- 'tiercelaw13.OwnersAlone': WHATEVER THE INPUT: true; the input reads as it did. -/
def ownersAloneSpec : ChangeSpec := { name := "ownersAlone", fn := fun _ => fun
  | [d1, d2, d3] => { results := [.lit (.bool true)], args := [d1, d2, d3] }
  | _ => none }
def ownersAloneRow : OpenClaim := { program := "ytononiedecpllaa", sum := "db708a4201ad7f2151017e3d3fd5fb8ec0681056fdaee1ec754e434103b53980", func := "tierce/tiercelaw13.OwnersAlone", spec := "ownersAlone", inPlace := ["slices.overlaps[tierce/api.Owner]"], unfollowed := true, recurses := true, apart := false }
def OwnersAloneSaid : Prop := ownersAloneRow.holds Try.pinned (OpenSpec.ofChange ownersAloneSpec)

/-- ITS FALSE NEIGHBOUR: 'it returns false'. Refute it at one input. -/
def ownersAloneWrong : ChangeSpec := { name := "ownersAlone", fn := fun _ => fun
  | [d1, d2, d3] => { results := [.lit (.bool false)], args := [d1, d2, d3] }
  | _ => none }
def OwnersAloneWrongFalsely : Prop := ownersAloneRow.holds Try.pinned (OpenSpec.ofChange ownersAloneWrong)

/-- 'tiercelaw13.OwnersFree': WHATEVER THE INPUT: true; the input reads as it did. -/
def ownersFreeSpec : ChangeSpec := { name := "ownersFree", fn := fun _ => fun
  | [d1, d2] => { results := [.lit (.bool true)], args := [d1, d2] }
  | _ => none }
def ownersFreeRow : OpenClaim := { program := "ytononiedecpllaa", sum := "db708a4201ad7f2151017e3d3fd5fb8ec0681056fdaee1ec754e434103b53980", func := "tierce/tiercelaw13.OwnersFree", spec := "ownersFree", inPlace := ["slices.overlaps[tierce/api.Owner]"], unfollowed := true, recurses := true, apart := false }
def OwnersFreeSaid : Prop := ownersFreeRow.holds Try.pinned (OpenSpec.ofChange ownersFreeSpec)

/-- ITS FALSE NEIGHBOUR: 'it returns false'. Refute it at one input. -/
def ownersFreeWrong : ChangeSpec := { name := "ownersFree", fn := fun _ => fun
  | [d1, d2] => { results := [.lit (.bool false)], args := [d1, d2] }
  | _ => none }
def OwnersFreeWrongFalsely : Prop := ownersFreeRow.holds Try.pinned (OpenSpec.ofChange ownersFreeWrong)

/- THE SECOND FORM. 'bulk': how many values and letters a reading holds, each counted each time it is reached (what is shared counts as often as it is met; a slice's spare places count too). A statement '..UptoSaid' is the law's where the arguments, and the package variables that the reading takes, are together of bulk at most 1048576: NARROWER than '..Said'. Prove '..Said' where nothing that the law and all that it calls make is longer than what came in: it says more and counts as full. Else prove '..UptoSaid'. A law counts once. -/
mutual
def uptoBulk {H : Type} : DataW H → Nat
  | .lit (.string bytes) => bytes.length + 1
  | .lit _ => 1
  | .nil => 1
  | .ptr d => uptoBulk d + 1
  | .slice elems spare => uptoBulkAll elems + uptoBulkAll spare + 1
  | .agg parts => uptoBulkAll parts + 1
  | .iface _ d => uptoBulk d + 1
  | .map entries => uptoBulkEntries entries + 1
  | .held _ => 1
def uptoBulkAll {H : Type} : List (DataW H) → Nat
  | [] => 0
  | d :: r => uptoBulk d + uptoBulkAll r
def uptoBulkEntries {H : Type} : List (Lit × DataW H) → Nat
  | [] => 0
  | x :: r => uptoBulkEntry x + uptoBulkEntries r
def uptoBulkEntry {H : Type} : Lit × DataW H → Nat
  | (.string bytes, d) => bytes.length + uptoBulk d + 1
  | (_, d) => uptoBulk d + 1
 end
def uptoSmall : (H : Type) → List (DataW H) → Bool := fun _ ds => decide (uptoBulkAll ds ≤ 1048576)
def OpenSpec.upto (s : _root_.Go.ChangeSpec) : _root_.Go.OpenSpec := { _root_.Go.OpenSpec.ofChange s with cond := some uptoSmall }

/-- 'tiercelaw13.OwnersExact', WHERE WHAT IT READS IS OF BULK AT MOST 1048576: true; the input reads as it did. -/
def ownersExactUptoRow : OpenClaim := { program := "ytononiedecpllaa", sum := "db708a4201ad7f2151017e3d3fd5fb8ec0681056fdaee1ec754e434103b53980", func := "tierce/tiercelaw13.OwnersExact", spec := "ownersExact", inPlace := ["slices.overlaps[tierce/api.Owner]"], unfollowed := true, recurses := true, apart := false, narrowed := true }
def OwnersExactUptoSaid : Prop := ownersExactUptoRow.holds Try.pinned (OpenSpec.upto ownersExactSpec)

/-- 'tiercelaw13.OwnersAlone', WHERE WHAT IT READS IS OF BULK AT MOST 1048576: true; the input reads as it did. -/
def ownersAloneUptoRow : OpenClaim := { program := "ytononiedecpllaa", sum := "db708a4201ad7f2151017e3d3fd5fb8ec0681056fdaee1ec754e434103b53980", func := "tierce/tiercelaw13.OwnersAlone", spec := "ownersAlone", inPlace := ["slices.overlaps[tierce/api.Owner]"], unfollowed := true, recurses := true, apart := false, narrowed := true }
def OwnersAloneUptoSaid : Prop := ownersAloneUptoRow.holds Try.pinned (OpenSpec.upto ownersAloneSpec)

/-- 'tiercelaw13.OwnersFree', WHERE WHAT IT READS IS OF BULK AT MOST 1048576: true; the input reads as it did. -/
def ownersFreeUptoRow : OpenClaim := { program := "ytononiedecpllaa", sum := "db708a4201ad7f2151017e3d3fd5fb8ec0681056fdaee1ec754e434103b53980", func := "tierce/tiercelaw13.OwnersFree", spec := "ownersFree", inPlace := ["slices.overlaps[tierce/api.Owner]"], unfollowed := true, recurses := true, apart := false, narrowed := true }
def OwnersFreeUptoSaid : Prop := ownersFreeUptoRow.holds Try.pinned (OpenSpec.upto ownersFreeSpec)

end Rows
end Go.Proofs.Ytononiedecpllaa
