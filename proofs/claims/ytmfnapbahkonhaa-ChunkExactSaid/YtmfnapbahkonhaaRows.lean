/-
  No cell of these rows narrows 'for every input' (looked for: loops, veiled, ifaces, maps, wideKeys, modest, calm, conditions, laid).
  DERIVED. THE GIVEN ROWS OF THIS SEAT. 3 by the template 'for every input the law returns true; each argument reads behind the call as it read before'; 0 by the template 'total and deterministic' (their statements: YtmfnapbahkonhaaTotals.lean).
  GIVEN WITH THE SEED: the statements are not yours to turn. If you find one false, say at which input.
  Laid BY PROGRAM, IN A SANDBOX (cutbox-rows.mjs): the forced cells as the released guide's own fill.sh prints them over the translation 33f38d612a0294c7… (all of the seat's roots in one cut). By AI agents, Wed Nov 11 2026. No macro, syntax, notation, axiom, sorry.
-/
import Derived.Test.YtmfnapbahkonhaaChecked
import GoSem.Claim
import GoSem.ClaimJoined
import GoSem.ClaimMapViews
import Derived.JoinedTies
import Derived.KernelRfl
namespace Go.Proofs.Ytmfnapbahkonhaa
/- THE CELL 'sum', in the pinned program and in every row, IS THE sha256 OF THE DUMP (.gsa) THAT YtmfnapbahkonhaaProg.lean LOADS. Nothing in Lean hashes anything: it is a label: what it is worth is what the hold of that sum in a sandbox is worth. -/
noncomputable def Try.pinned : Pinned := { name := "ytmfnapbahkonhaa", sum := "33f38d612a0294c7a3dd36fcd577abf71586886dcfb2bffd83b8749a5674ccc8", checked := Try.checked }
namespace Rows
def none {H : Type} : Left H := { results := [], args := [] }

/-- 'tiercelaw18.ChunkExact': WHATEVER THE INPUT: true; the input reads as it did. -/
def chunkExactSpec : ChangeSpec := { name := "chunkExact", fn := fun _ => fun
  | [d1, d2, d3, d4] => { results := [.lit (.bool true)], args := [d1, d2, d3, d4] }
  | _ => none }
def chunkExactRow : OpenClaim := { program := "ytmfnapbahkonhaa", sum := "33f38d612a0294c7a3dd36fcd577abf71586886dcfb2bffd83b8749a5674ccc8", func := "tierce/tiercelaw18.ChunkExact", spec := "chunkExact", inPlace := ["internal/abi.NoEscape", "internal/bytealg.MakeNoZero"], unfollowed := true, recurses := true, apart := false }
def ChunkExactSaid : Prop := chunkExactRow.holds Try.pinned (OpenSpec.ofChange chunkExactSpec)

/-- ITS FALSE NEIGHBOUR: 'it returns false'. Refute it at one input. -/
def chunkExactWrong : ChangeSpec := { name := "chunkExact", fn := fun _ => fun
  | [d1, d2, d3, d4] => { results := [.lit (.bool false)], args := [d1, d2, d3, d4] }
  | _ => none }
def ChunkExactWrongFalsely : Prop := chunkExactRow.holds Try.pinned (OpenSpec.ofChange chunkExactWrong)

/-- 'tiercelaw18.ChunkApart': WHATEVER THE INPUT: true; the input reads as it did. -/
def chunkApartSpec : ChangeSpec := { name := "chunkApart", fn := fun _ => fun
  | [d1, d2, d3, d4, d5] => { results := [.lit (.bool true)], args := [d1, d2, d3, d4, d5] }
  | _ => none }
def chunkApartRow : OpenClaim := { program := "ytmfnapbahkonhaa", sum := "33f38d612a0294c7a3dd36fcd577abf71586886dcfb2bffd83b8749a5674ccc8", func := "tierce/tiercelaw18.ChunkApart", spec := "chunkApart", inPlace := ["internal/abi.NoEscape", "internal/bytealg.MakeNoZero"], unfollowed := true, recurses := true, apart := false }
def ChunkApartSaid : Prop := chunkApartRow.holds Try.pinned (OpenSpec.ofChange chunkApartSpec)

/-- ITS FALSE NEIGHBOUR: 'it returns false'. Refute it at one input. -/
def chunkApartWrong : ChangeSpec := { name := "chunkApart", fn := fun _ => fun
  | [d1, d2, d3, d4, d5] => { results := [.lit (.bool false)], args := [d1, d2, d3, d4, d5] }
  | _ => none }
def ChunkApartWrongFalsely : Prop := chunkApartRow.holds Try.pinned (OpenSpec.ofChange chunkApartWrong)

/-- 'tiercelaw18.ChunkDown': WHATEVER THE INPUT: true; the input reads as it did. -/
def chunkDownSpec : ChangeSpec := { name := "chunkDown", fn := fun _ => fun
  | [d1, d2] => { results := [.lit (.bool true)], args := [d1, d2] }
  | _ => none }
def chunkDownRow : OpenClaim := { program := "ytmfnapbahkonhaa", sum := "33f38d612a0294c7a3dd36fcd577abf71586886dcfb2bffd83b8749a5674ccc8", func := "tierce/tiercelaw18.ChunkDown", spec := "chunkDown", inPlace := ["internal/abi.NoEscape", "internal/bytealg.MakeNoZero"], unfollowed := true, recurses := true, apart := false }
def ChunkDownSaid : Prop := chunkDownRow.holds Try.pinned (OpenSpec.ofChange chunkDownSpec)

/-- ITS FALSE NEIGHBOUR: 'it returns false'. Refute it at one input. -/
def chunkDownWrong : ChangeSpec := { name := "chunkDown", fn := fun _ => fun
  | [d1, d2] => { results := [.lit (.bool false)], args := [d1, d2] }
  | _ => none }
def ChunkDownWrongFalsely : Prop := chunkDownRow.holds Try.pinned (OpenSpec.ofChange chunkDownWrong)

/- THE SECOND FORM. 'bulk': how many values and letters a reading holds, each counted each time it is reached (what is shared counts as often as it is met; a slice's spare places count too). A statement '..UptoSaid' is the law's where the arguments, and the package variables that the reading takes, are together of bulk at most 1048576: NARROWER than '..Said'. Prove '..Said' where nothing that the law and all that it calls make is longer than what came in: it says more and counts as full. Else prove '..UptoSaid'. A law counts once. -/
mutual
def uptoBulk {H : Type} : DataW H → Nat
  | .lit (.string bytes) => bytes.length + 1
  | .lit _ => 1
  | .nil => 1
  | .ptr d => uptoBulk d + 1
  | .slice elems spare => uptoBulkAll elems + uptoBulkAll spare + 1
  | .agg parts => uptoBulkAll parts + 1
  | .iface _ d => uptoBulk d + 1
  | .map entries => uptoBulkEntries entries + 1
  | .held _ => 1
def uptoBulkAll {H : Type} : List (DataW H) → Nat
  | [] => 0
  | d :: r => uptoBulk d + uptoBulkAll r
def uptoBulkEntries {H : Type} : List (Lit × DataW H) → Nat
  | [] => 0
  | x :: r => uptoBulkEntry x + uptoBulkEntries r
def uptoBulkEntry {H : Type} : Lit × DataW H → Nat
  | (.string bytes, d) => bytes.length + uptoBulk d + 1
  | (_, d) => uptoBulk d + 1
 end
def uptoSmall : (H : Type) → List (DataW H) → Bool := fun _ ds => decide (uptoBulkAll ds ≤ 1048576)
def OpenSpec.upto (s : _root_.Go.ChangeSpec) : _root_.Go.OpenSpec := { _root_.Go.OpenSpec.ofChange s with cond := some uptoSmall }

/-- 'tiercelaw18.ChunkExact', WHERE WHAT IT READS IS OF BULK AT MOST 1048576: true; the input reads as it did. -/
def chunkExactUptoRow : OpenClaim := { program := "ytmfnapbahkonhaa", sum := "33f38d612a0294c7a3dd36fcd577abf71586886dcfb2bffd83b8749a5674ccc8", func := "tierce/tiercelaw18.ChunkExact", spec := "chunkExact", inPlace := ["internal/abi.NoEscape", "internal/bytealg.MakeNoZero"], unfollowed := true, recurses := true, apart := false, narrowed := true }
def ChunkExactUptoSaid : Prop := chunkExactUptoRow.holds Try.pinned (OpenSpec.upto chunkExactSpec)

/-- 'tiercelaw18.ChunkApart', WHERE WHAT IT READS IS OF BULK AT MOST 1048576: true; the input reads as it did. -/
def chunkApartUptoRow : OpenClaim := { program := "ytmfnapbahkonhaa", sum := "33f38d612a0294c7a3dd36fcd577abf71586886dcfb2bffd83b8749a5674ccc8", func := "tierce/tiercelaw18.ChunkApart", spec := "chunkApart", inPlace := ["internal/abi.NoEscape", "internal/bytealg.MakeNoZero"], unfollowed := true, recurses := true, apart := false, narrowed := true }
def ChunkApartUptoSaid : Prop := chunkApartUptoRow.holds Try.pinned (OpenSpec.upto chunkApartSpec)

/-- 'tiercelaw18.ChunkDown', WHERE WHAT IT READS IS OF BULK AT MOST 1048576: true; the input reads as it did. -/
def chunkDownUptoRow : OpenClaim := { program := "ytmfnapbahkonhaa", sum := "33f38d612a0294c7a3dd36fcd577abf71586886dcfb2bffd83b8749a5674ccc8", func := "tierce/tiercelaw18.ChunkDown", spec := "chunkDown", inPlace := ["internal/abi.NoEscape", "internal/bytealg.MakeNoZero"], unfollowed := true, recurses := true, apart := false, narrowed := true }
def ChunkDownUptoSaid : Prop := chunkDownUptoRow.holds Try.pinned (OpenSpec.upto chunkDownSpec)

end Rows
end Go.Proofs.Ytmfnapbahkonhaa
