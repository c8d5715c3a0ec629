/-
  No cell of these rows narrows 'for every input' (looked for: loops, veiled, ifaces, maps, wideKeys, modest, calm, conditions, laid).
  DERIVED. THE GIVEN ROWS OF THIS SEAT. 4 by the template 'for every input the law returns true; each argument reads behind the call as it read before'; 0 by the template 'total and deterministic' (their statements: YtlnlgapjlekehaaTotals.lean).
  GIVEN WITH THE SEED: the statements are not yours to turn. If you find one false, say at which input.
  Laid BY PROGRAM, IN A SANDBOX (cutbox-rows.mjs): the forced cells as the released guide's own fill.sh prints them over the translation e6a75fe72a0786aa… (all of the seat's roots in one cut). By AI agents, Wed Nov 11 2026. No macro, syntax, notation, axiom, sorry.
-/
import Derived.Test.YtlnlgapjlekehaaChecked
import GoSem.Claim
import GoSem.ClaimJoined
import GoSem.ClaimMapViews
import Derived.JoinedTies
import Derived.KernelRfl
namespace Go.Proofs.Ytlnlgapjlekehaa
/- THE CELL 'sum', in the pinned program and in every row, IS THE sha256 OF THE DUMP (.gsa) THAT YtlnlgapjlekehaaProg.lean LOADS. Nothing in Lean hashes anything: it is a label: what it is worth is what the hold of that sum in a sandbox is worth. -/
noncomputable def Try.pinned : Pinned := { name := "ytlnlgapjlekehaa", sum := "e6a75fe72a0786aa66354b66936e29854d09324629ab9eeedfa5f986947c916c", checked := Try.checked }
namespace Rows
def none {H : Type} : Left H := { results := [], args := [] }

/-- 'tiercelaw08.TreeMap': WHATEVER THE INPUT: true; the input reads as it did. -/
def treeMapSpec : ChangeSpec := { name := "treeMap", fn := fun _ => fun
  | [d1, d2] => { results := [.lit (.bool true)], args := [d1, d2] }
  | _ => none }
def treeMapRow : OpenClaim := { program := "ytlnlgapjlekehaa", sum := "e6a75fe72a0786aa66354b66936e29854d09324629ab9eeedfa5f986947c916c", func := "tierce/tiercelaw08.TreeMap", spec := "treeMap", unfollowed := true, recurses := true, apart := false }
def TreeMapSaid : Prop := treeMapRow.holds Try.pinned (OpenSpec.ofChange treeMapSpec)

/-- ITS FALSE NEIGHBOUR: 'it returns false'. Refute it at one input. -/
def treeMapWrong : ChangeSpec := { name := "treeMap", fn := fun _ => fun
  | [d1, d2] => { results := [.lit (.bool false)], args := [d1, d2] }
  | _ => none }
def TreeMapWrongFalsely : Prop := treeMapRow.holds Try.pinned (OpenSpec.ofChange treeMapWrong)

/-- 'tiercelaw11.VolsExact': WHATEVER THE INPUT: true; the input reads as it did. -/
def volsExactSpec : ChangeSpec := { name := "volsExact", fn := fun _ => fun
  | [d1, d2] => { results := [.lit (.bool true)], args := [d1, d2] }
  | _ => none }
def volsExactRow : OpenClaim := { program := "ytlnlgapjlekehaa", sum := "e6a75fe72a0786aa66354b66936e29854d09324629ab9eeedfa5f986947c916c", func := "tierce/tiercelaw11.VolsExact", spec := "volsExact", apart := false }
def VolsExactSaid : Prop := volsExactRow.holds Try.pinned (OpenSpec.ofChange volsExactSpec)

/-- ITS FALSE NEIGHBOUR: 'it returns false'. Refute it at one input. -/
def volsExactWrong : ChangeSpec := { name := "volsExact", fn := fun _ => fun
  | [d1, d2] => { results := [.lit (.bool false)], args := [d1, d2] }
  | _ => none }
def VolsExactWrongFalsely : Prop := volsExactRow.holds Try.pinned (OpenSpec.ofChange volsExactWrong)

/-- 'tiercelaw11.VolsList': WHATEVER THE INPUT: true; the input reads as it did. -/
def volsListSpec : ChangeSpec := { name := "volsList", fn := fun _ => fun
  | [d] => { results := [.lit (.bool true)], args := [d] }
  | _ => none }
def volsListRow : OpenClaim := { program := "ytlnlgapjlekehaa", sum := "e6a75fe72a0786aa66354b66936e29854d09324629ab9eeedfa5f986947c916c", func := "tierce/tiercelaw11.VolsList", spec := "volsList", unfollowed := true, recurses := true, apart := false }
def VolsListSaid : Prop := volsListRow.holds Try.pinned (OpenSpec.ofChange volsListSpec)

/-- ITS FALSE NEIGHBOUR: 'it returns false'. Refute it at one input. -/
def volsListWrong : ChangeSpec := { name := "volsList", fn := fun _ => fun
  | [d] => { results := [.lit (.bool false)], args := [d] }
  | _ => none }
def VolsListWrongFalsely : Prop := volsListRow.holds Try.pinned (OpenSpec.ofChange volsListWrong)

/-- 'tiercelaw11.VolsApart': WHATEVER THE INPUT: true; the input reads as it did. -/
def volsApartSpec : ChangeSpec := { name := "volsApart", fn := fun _ => fun
  | [d1, d2] => { results := [.lit (.bool true)], args := [d1, d2] }
  | _ => none }
def volsApartRow : OpenClaim := { program := "ytlnlgapjlekehaa", sum := "e6a75fe72a0786aa66354b66936e29854d09324629ab9eeedfa5f986947c916c", func := "tierce/tiercelaw11.VolsApart", spec := "volsApart", unfollowed := true, recurses := true, apart := false }
def VolsApartSaid : Prop := volsApartRow.holds Try.pinned (OpenSpec.ofChange volsApartSpec)

/-- ITS FALSE NEIGHBOUR: 'it returns false'. Refute it at one input. -/
def volsApartWrong : ChangeSpec := { name := "volsApart", fn := fun _ => fun
  | [d1, d2] => { results := [.lit (.bool false)], args := [d1, d2] }
  | _ => none }
def VolsApartWrongFalsely : Prop := volsApartRow.holds Try.pinned (OpenSpec.ofChange volsApartWrong)

/- THE SECOND FORM. 'bulk': how many values and letters a reading holds, each counted each time it is reached (what is shared counts as often as it is met; a slice's spare places count too). A statement '..UptoSaid' is the law's where the arguments, and the package variables that the reading takes, are together of bulk at most 1048576: NARROWER than '..Said'. Prove '..Said' where nothing that the law and all that it calls make is longer than what came in: it says more and counts as full. Else prove '..UptoSaid'. A law counts once. -/
mutual
def uptoBulk {H : Type} : DataW H → Nat
  | .lit (.string bytes) => bytes.length + 1
  | .lit _ => 1
  | .nil => 1
  | .ptr d => uptoBulk d + 1
  | .slice elems spare => uptoBulkAll elems + uptoBulkAll spare + 1
  | .agg parts => uptoBulkAll parts + 1
  | .iface _ d => uptoBulk d + 1
  | .map entries => uptoBulkEntries entries + 1
  | .held _ => 1
def uptoBulkAll {H : Type} : List (DataW H) → Nat
  | [] => 0
  | d :: r => uptoBulk d + uptoBulkAll r
def uptoBulkEntries {H : Type} : List (Lit × DataW H) → Nat
  | [] => 0
  | x :: r => uptoBulkEntry x + uptoBulkEntries r
def uptoBulkEntry {H : Type} : Lit × DataW H → Nat
  | (.string bytes, d) => bytes.length + uptoBulk d + 1
  | (_, d) => uptoBulk d + 1
 end
def uptoSmall : (H : Type) → List (DataW H) → Bool := fun _ ds => decide (uptoBulkAll ds ≤ 1048576)
def OpenSpec.upto (s : _root_.Go.ChangeSpec) : _root_.Go.OpenSpec := { _root_.Go.OpenSpec.ofChange s with cond := some uptoSmall }

/-- 'tiercelaw08.TreeMap', WHERE WHAT IT READS IS OF BULK AT MOST 1048576: true; the input reads as it did. -/
def treeMapUptoRow : OpenClaim := { program := "ytlnlgapjlekehaa", sum := "e6a75fe72a0786aa66354b66936e29854d09324629ab9eeedfa5f986947c916c", func := "tierce/tiercelaw08.TreeMap", spec := "treeMap", unfollowed := true, recurses := true, apart := false, narrowed := true }
def TreeMapUptoSaid : Prop := treeMapUptoRow.holds Try.pinned (OpenSpec.upto treeMapSpec)

/-- 'tiercelaw11.VolsExact', WHERE WHAT IT READS IS OF BULK AT MOST 1048576: true; the input reads as it did. -/
def volsExactUptoRow : OpenClaim := { program := "ytlnlgapjlekehaa", sum := "e6a75fe72a0786aa66354b66936e29854d09324629ab9eeedfa5f986947c916c", func := "tierce/tiercelaw11.VolsExact", spec := "volsExact", apart := false, narrowed := true }
def VolsExactUptoSaid : Prop := volsExactUptoRow.holds Try.pinned (OpenSpec.upto volsExactSpec)

/-- 'tiercelaw11.VolsList', WHERE WHAT IT READS IS OF BULK AT MOST 1048576: true; the input reads as it did. -/
def volsListUptoRow : OpenClaim := { program := "ytlnlgapjlekehaa", sum := "e6a75fe72a0786aa66354b66936e29854d09324629ab9eeedfa5f986947c916c", func := "tierce/tiercelaw11.VolsList", spec := "volsList", unfollowed := true, recurses := true, apart := false, narrowed := true }
def VolsListUptoSaid : Prop := volsListUptoRow.holds Try.pinned (OpenSpec.upto volsListSpec)

/-- 'tiercelaw11.VolsApart', WHERE WHAT IT READS IS OF BULK AT MOST 1048576: true; the input reads as it did. -/
def volsApartUptoRow : OpenClaim := { program := "ytlnlgapjlekehaa", sum := "e6a75fe72a0786aa66354b66936e29854d09324629ab9eeedfa5f986947c916c", func := "tierce/tiercelaw11.VolsApart", spec := "volsApart", unfollowed := true, recurses := true, apart := false, narrowed := true }
def VolsApartUptoSaid : Prop := volsApartUptoRow.holds Try.pinned (OpenSpec.upto volsApartSpec)

end Rows
end Go.Proofs.Ytlnlgapjlekehaa
