/- awake of the statements of layer 2: it returns true and leaves all that was there. -/
import Derived.Test.YtklgadhdcnmgpaaDoorCopen
set_option linter.unusedVariables false
namespace Go.Proofs.YtklgadhdcnmgpaaDoor
open Go.RowKit

theorem sum9 : sumOf [49, 50, 51, 52, 53, 54, 55, 56, 57] = 3808858755 := by decide +kernel

set_option maxHeartbeats 400000 in
set_option maxRecDepth 100000 in
theorem awake2 (w : World) (hT : Tab w) : Calls Tryd.prog 6 #[] w fun e w' => e = .returned (.bool true) ∧ KeptIn (· < w.heap.size) w w' := by
  have HT := Lib.hid hT
  clear hT
  go_enter Tryd.func6, Tryd.ntmps6
  go_wp2_with fail
  refine (castleOpen [97, 98, 99] w HT.out (by decide)).mono ?_
  rintro e w1 ⟨rfl, k1⟩
  rw [show openOf [97, 98, 99] = [] from by decide +kernel, show openIs [97, 98, 99] = false from by decide +kernel]
  have T1 := Lib.hid (HT.out.kept k1 HT.out.lt)
  go_wp2_with fail
  refine (castleSum [49, 50, 51, 52, 53, 54, 55, 56, 57] w1 T1.out (by decide)).mono ?_
  rintro e _ ⟨rfl, rfl⟩
  rw [sum9]
  go_wp2_with fail
  refine (castleSum [] w1 T1.out (by decide)).mono ?_
  rintro e _ ⟨rfl, rfl⟩
  rw [show sumOf [] = 0 from by decide +kernel]
  go_wp2_with fail
  refine (castleSeal [] w1 T1.out (by decide)).mono ?_
  rintro e w2 ⟨rfl, k2⟩
  replace k2 := k1.trans (k2.mono fun k h => Nat.lt_of_lt_of_le h k1.size)
  clear k1
  rw [show sealOf [] = [0, 0, 0, 0] from by decide +kernel]
  go_wp2
  go_ret
  exact ⟨rfl, k2⟩

end Go.Proofs.YtklgadhdcnmgpaaDoor
