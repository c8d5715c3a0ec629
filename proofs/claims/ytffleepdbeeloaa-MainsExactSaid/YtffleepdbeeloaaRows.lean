/-
  No cell of these rows narrows 'for every input' (looked for: loops, veiled, ifaces, maps, wideKeys, modest, calm, conditions, laid).
  DERIVED. THE GIVEN ROWS OF THIS SEAT. 3 by the template 'for every input the law returns true; each argument reads behind the call as it read before'; 0 by the template 'total and deterministic' (their statements: YtffleepdbeeloaaTotals.lean).
  GIVEN WITH THE SEED: the statements are not yours to turn. If you find one false, say at which input.
  Laid BY PROGRAM, IN A SANDBOX (cutbox-rows.mjs): the forced cells as the released guide's own fill.sh prints them over the translation d915c26efa750346… (all of the seat's roots in one cut). By AI agents, Wed Nov 11 2026. No macro, syntax, notation, axiom, sorry.
-/
import Derived.Test.YtffleepdbeeloaaChecked
import GoSem.Claim
import GoSem.ClaimJoined
import GoSem.ClaimMapViews
import Derived.JoinedTies
import Derived.KernelRfl
namespace Go.Proofs.Ytffleepdbeeloaa
/- THE CELL 'sum', in the pinned program and in every row, IS THE sha256 OF THE DUMP (.gsa) THAT YtffleepdbeeloaaProg.lean LOADS. Nothing in Lean hashes anything: it is a label: what it is worth is what the hold of that sum in a sandbox is worth. -/
noncomputable def Try.pinned : Pinned := { name := "ytffleepdbeeloaa", sum := "d915c26efa750346ab5727107dc3f1e8313410b3485a6d2a8cbcb11500c12ad4", checked := Try.checked }
namespace Rows
def none {H : Type} : Left H := { results := [], args := [] }

/-- 'tiercelaw03.MainsExact': WHATEVER THE INPUT: true; the input reads as it did. -/
def mainsExactSpec : ChangeSpec := { name := "mainsExact", fn := fun _ => fun
  | [d1, d2] => { results := [.lit (.bool true)], args := [d1, d2] }
  | _ => none }
def mainsExactRow : OpenClaim := { program := "ytffleepdbeeloaa", sum := "d915c26efa750346ab5727107dc3f1e8313410b3485a6d2a8cbcb11500c12ad4", func := "tierce/tiercelaw03.MainsExact", spec := "mainsExact", apart := false }
def MainsExactSaid : Prop := mainsExactRow.holds Try.pinned (OpenSpec.ofChange mainsExactSpec)

/-- ITS FALSE NEIGHBOUR: 'it returns false'. Refute it at one input. -/
def mainsExactWrong : ChangeSpec := { name := "mainsExact", fn := fun _ => fun
  | [d1, d2] => { results := [.lit (.bool false)], args := [d1, d2] }
  | _ => none }
def MainsExactWrongFalsely : Prop := mainsExactRow.holds Try.pinned (OpenSpec.ofChange mainsExactWrong)

/-- 'tiercelaw03.MainsFuse': WHATEVER THE INPUT: true; the input reads as it did. -/
def mainsFuseSpec : ChangeSpec := { name := "mainsFuse", fn := fun _ => fun
  | [d1, d2] => { results := [.lit (.bool true)], args := [d1, d2] }
  | _ => none }
def mainsFuseRow : OpenClaim := { program := "ytffleepdbeeloaa", sum := "d915c26efa750346ab5727107dc3f1e8313410b3485a6d2a8cbcb11500c12ad4", func := "tierce/tiercelaw03.MainsFuse", spec := "mainsFuse", apart := false }
def MainsFuseSaid : Prop := mainsFuseRow.holds Try.pinned (OpenSpec.ofChange mainsFuseSpec)

/-- ITS FALSE NEIGHBOUR: 'it returns false'. Refute it at one input. -/
def mainsFuseWrong : ChangeSpec := { name := "mainsFuse", fn := fun _ => fun
  | [d1, d2] => { results := [.lit (.bool false)], args := [d1, d2] }
  | _ => none }
def MainsFuseWrongFalsely : Prop := mainsFuseRow.holds Try.pinned (OpenSpec.ofChange mainsFuseWrong)

/-- 'tiercelaw03.MainsLives': WHATEVER THE INPUT: true; the input reads as it did. -/
def mainsLivesSpec : ChangeSpec := { name := "mainsLives", fn := fun _ => fun
  | [d] => { results := [.lit (.bool true)], args := [d] }
  | _ => none }
def mainsLivesRow : OpenClaim := { program := "ytffleepdbeeloaa", sum := "d915c26efa750346ab5727107dc3f1e8313410b3485a6d2a8cbcb11500c12ad4", func := "tierce/tiercelaw03.MainsLives", spec := "mainsLives", apart := false }
def MainsLivesSaid : Prop := mainsLivesRow.holds Try.pinned (OpenSpec.ofChange mainsLivesSpec)

/-- ITS FALSE NEIGHBOUR: 'it returns false'. Refute it at one input. -/
def mainsLivesWrong : ChangeSpec := { name := "mainsLives", fn := fun _ => fun
  | [d] => { results := [.lit (.bool false)], args := [d] }
  | _ => none }
def MainsLivesWrongFalsely : Prop := mainsLivesRow.holds Try.pinned (OpenSpec.ofChange mainsLivesWrong)

/- THE SECOND FORM. 'bulk': how many values and letters a reading holds, each counted each time it is reached (what is shared counts as often as it is met; a slice's spare places count too). A statement '..UptoSaid' is the law's where the arguments, and the package variables that the reading takes, are together of bulk at most 1048576: NARROWER than '..Said'. Prove '..Said' where nothing that the law and all that it calls make is longer than what came in: it says more and counts as full. Else prove '..UptoSaid'. A law counts once. -/
mutual
def uptoBulk {H : Type} : DataW H → Nat
  | .lit (.string bytes) => bytes.length + 1
  | .lit _ => 1
  | .nil => 1
  | .ptr d => uptoBulk d + 1
  | .slice elems spare => uptoBulkAll elems + uptoBulkAll spare + 1
  | .agg parts => uptoBulkAll parts + 1
  | .iface _ d => uptoBulk d + 1
  | .map entries => uptoBulkEntries entries + 1
  | .held _ => 1
def uptoBulkAll {H : Type} : List (DataW H) → Nat
  | [] => 0
  | d :: r => uptoBulk d + uptoBulkAll r
def uptoBulkEntries {H : Type} : List (Lit × DataW H) → Nat
  | [] => 0
  | x :: r => uptoBulkEntry x + uptoBulkEntries r
def uptoBulkEntry {H : Type} : Lit × DataW H → Nat
  | (.string bytes, d) => bytes.length + uptoBulk d + 1
  | (_, d) => uptoBulk d + 1
 end
def uptoSmall : (H : Type) → List (DataW H) → Bool := fun _ ds => decide (uptoBulkAll ds ≤ 1048576)
def OpenSpec.upto (s : _root_.Go.ChangeSpec) : _root_.Go.OpenSpec := { _root_.Go.OpenSpec.ofChange s with cond := some uptoSmall }

/-- 'tiercelaw03.MainsExact', WHERE WHAT IT READS IS OF BULK AT MOST 1048576: true; the input reads as it did. -/
def mainsExactUptoRow : OpenClaim := { program := "ytffleepdbeeloaa", sum := "d915c26efa750346ab5727107dc3f1e8313410b3485a6d2a8cbcb11500c12ad4", func := "tierce/tiercelaw03.MainsExact", spec := "mainsExact", apart := false, narrowed := true }
def MainsExactUptoSaid : Prop := mainsExactUptoRow.holds Try.pinned (OpenSpec.upto mainsExactSpec)

/-- 'tiercelaw03.MainsFuse', WHERE WHAT IT READS IS OF BULK AT MOST 1048576: true; the input reads as it did. -/
def mainsFuseUptoRow : OpenClaim := { program := "ytffleepdbeeloaa", sum := "d915c26efa750346ab5727107dc3f1e8313410b3485a6d2a8cbcb11500c12ad4", func := "tierce/tiercelaw03.MainsFuse", spec := "mainsFuse", apart := false, narrowed := true }
def MainsFuseUptoSaid : Prop := mainsFuseUptoRow.holds Try.pinned (OpenSpec.upto mainsFuseSpec)

/-- 'tiercelaw03.MainsLives', WHERE WHAT IT READS IS OF BULK AT MOST 1048576: true; the input reads as it did. -/
def mainsLivesUptoRow : OpenClaim := { program := "ytffleepdbeeloaa", sum := "d915c26efa750346ab5727107dc3f1e8313410b3485a6d2a8cbcb11500c12ad4", func := "tierce/tiercelaw03.MainsLives", spec := "mainsLives", apart := false, narrowed := true }
def MainsLivesUptoSaid : Prop := mainsLivesUptoRow.holds Try.pinned (OpenSpec.upto mainsLivesSpec)

end Rows
end Go.Proofs.Ytffleepdbeeloaa
