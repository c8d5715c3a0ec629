/- The table that a row of layer 2 lists. -/
import Derived.Test.YtklgadhdcnmgpaaDoorRows
import Derived.Test.YtklgadhdcnmgpaaDoorCsum
import Derived.MakeChecks
set_option linter.unusedVariables false
namespace Go.Proofs.YtklgadhdcnmgpaaDoor
open Go.RowKit

theorem four_named : Tryd.prog.globalNamed "tierce/castle.fourSteps" = some 0 := by kernel_rfl
theorem four_type : (Tryd.prog.globals[0]?).map (·.type) = some 40 := by kernel_rfl

theorem tab_of {W : World} (h : laidMetH Tryd.prog [("tierce/castle.fourSteps", Rows.laid_tierce_castle_fourSteps)] W) : Tab W := by
  rw [MakeChecks.laidMetH_plain _ _ _ (by kernel_rfl)] at h
  have hT : Lib.TabIs Tryd.prog W "tierce/castle.fourSteps" .u32 (tab4.map Int.ofNat) :=
    Lib.tabIs_of_head four_named four_type Tryd.underlying40 Tryd.underlying25 (by kernel_rfl) (by kernel_rfl) h
  intro i hi
  have h1 := hT.cell four_named i hi
  rw [h1]
  have h2 : ∀ i, i < 16 → (tab4.map Int.ofNat).getD i 0 = ((at4 i : Nat) : Int) := by decide +kernel
  rw [h2 i hi]

end Go.Proofs.YtklgadhdcnmgpaaDoor
