/- Spots: a tier and a slot; in a box. -/
import Derived.Test.YtmfnapbahkonhaaKept
import Derived.Test.YtmfnapbahkonhaaChecked
import Derived.WalkSpells
import Derived.WalkLawsBesides
import Derived.RegionTactic
import Derived.Outline
import Derived.OwnWalk
import Derived.OpenShut
import Derived.Deep.QuietTactic
import Derived.BigRegion
import Derived.Lib.Hide
import Derived.BigQuiet
import Derived.Deep.RegionHeld3
import Derived.LoopTactic
import Derived.Laws.StructEq
import Derived.Tactics
set_option linter.unusedVariables false
namespace Go.Proofs.Ytmfnapbahkonhaa
open Go.RowKit

/-- A spot. -/
structure Sp where
  ti : Int
  sl : Int
  deriving DecidableEq
def spV (x : Sp) : Value := .agg #[.int .i64 x.ti, .int .i64 x.sl]
def BoxS (y : Nat) (x : Sp) (W : World) : Prop := W.heap[y]? = some (.cells #[.int .i64 x.ti, .int .i64 x.sl] 36 (0, 0))
theorem keptNew (w : World) (o : Obj) : KeptIn (· < w.heap.size) w (w.alloc o) := (KeptIn.refl _ w).alloc (fun _ h => h) _
theorem KeptIn.onM {a b c : World} (h : KeptIn (· < a.heap.size) a b) (k : KeptIn (· < b.heap.size) b c) : KeptIn (· < a.heap.size) a c := h.trans (k.mono fun _ hk => Nat.lt_of_lt_of_le hk h.size)
section
variable {y : Nat} {s : Sp} {W W' : World}
theorem BoxS.c0 (h : BoxS y s W) : W.cell? ⟨y, 0, none⟩ = some (.int .i64 s.ti) := (cell_of_row _ _ 0 _ _ _ h).trans rfl
theorem BoxS.c1 (h : BoxS y s W) : W.cell? ⟨y, 1, none⟩ = some (.int .i64 s.sl) := (cell_of_row _ _ 1 _ _ _ h).trans rfl
theorem BoxS.lt (h : BoxS y s W) : y < W.heap.size := (Array.getElem?_eq_some_iff.1 h).1
theorem BoxS.old (h : BoxS y s W) (hk : KeptIn (· < W.heap.size) W W') : BoxS y s W' := (hk.block y h.lt).trans h
theorem BoxS.new (w : World) (s : Sp) : BoxS w.heap.size s (w.alloc (.cells #[.int .i64 s.ti, .int .i64 s.sl] 36)) := heap_alloc_new w _
end

end Go.Proofs.Ytmfnapbahkonhaa
