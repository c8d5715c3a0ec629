/- awake of the statements of layer 10: it returns true and leaves all that was there. -/
import Derived.Test.YteppjjgnkjkfhaaSl3
set_option linter.unusedVariables false
namespace Go.Proofs.Yteppjjgnkjkfhaa
open Go.RowKit

set_option maxHeartbeats 1000000 in
set_option maxRecDepth 100000 in
theorem awake10 (w : World) : Calls Try.prog 6 #[] w fun e w' => e = .returned (.bool true) ∧ KeptIn (· < w.heap.size) w w' := by
  go_enter Try.func6, Try.ntmps6
  go_wp2_with fail
  refine (slNew 2 2 w (by decide)).mono ?_
  rintro e w1 ⟨s, g, rfl, h1, k1, hs, hg⟩
  have H1 := Lib.hid h1; have K1 := Lib.hid k1
  have hX : ∀ k, k < w.heap.size → k ≠ g := fun k h => by omega
  clear h1 k1
  go_wp2_with fail
  refine (slTakeYes s g _ w1 H1.out (by decide)).mono ?_
  rintro e w2 ⟨rfl, h2, k2⟩
  have H2 : Hid (IsSl s g [1, 0] w2) := Lib.hid h2; have K2 := Lib.hid (K1.out.trans (k2.mono hX))
  clear h2 k2 H1 K1
  go_wp2_with fail
  refine (slTakeNo s g _ w2 H2.out (by decide)).mono ?_
  rintro e _ ⟨rfl, rfl⟩
  go_wp2_with fail
  refine (slMoveYes s g _ w2 H2.out (by decide)).mono ?_
  rintro e w3 ⟨rfl, h3, k3⟩
  have H3 : Hid (IsSl s g [1, 1] w3) := Lib.hid h3; have K3 := Lib.hid (K2.out.trans (k3.mono hX))
  clear h3 k3 H2 K2
  go_wp2_with fail
  refine (slFree s g _ w3 H3.out).mono ?_
  rintro e _ ⟨rfl, rfl⟩
  go_wp2_with fail
  refine (slLen s g _ w3 H3.out).mono ?_
  rintro e _ ⟨rfl, rfl⟩
  go_wp2_with fail
  refine (slGive 1 s g _ w3 H3.out).mono ?_
  rintro e w4 ⟨rfl, h4, k4⟩
  have H4 : Hid (IsSl s g [1, 0] w4) := Lib.hid h4; have K4 := Lib.hid (K3.out.trans (k4.mono hX))
  clear h4 k4 H3 K3
  go_wp2_with fail
  refine (slWaits s g _ w4 H4.out).mono ?_
  rintro e _ ⟨rfl, rfl⟩
  go_wp2_with fail
  go_ret
  exact ⟨rfl, K4.out⟩

end Go.Proofs.Yteppjjgnkjkfhaa
