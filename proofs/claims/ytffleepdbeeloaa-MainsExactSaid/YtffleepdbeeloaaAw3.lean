/- awake of the statements of layer 3: it returns true and leaves all that was there. -/
import Derived.Test.YtffleepdbeeloaaMains
set_option linter.unusedVariables false
namespace Go.Proofs.Ytffleepdbeeloaa
open Go.RowKit

set_option maxHeartbeats 400000 in
set_option maxRecDepth 100000 in
theorem awake3 (w : World) : Calls Try.prog 6 #[] w fun e w' => e = .returned (.bool true) ∧ KeptIn (· < w.heap.size) w w' := by
  go_enter Try.func6, Try.ntmps6
  go_wp2_with fail
  refine (mNew w).mono ?_
  rintro e w1 ⟨rfl, h1, k1⟩
  have H1 := Lib.hid h1; have K1 := Lib.hid k1
  have hX : ∀ k, k < w.heap.size → k ≠ w.heap.size := fun k h => Nat.ne_of_lt h
  clear h1 k1
  generalize hr : w.heap.size = r at *
  have HR := Lib.hid hr; clear hr
  go_wp2_with fail
  refine (mFuse r _ _ _ _ 2 w1 H1.out).mono ?_
  rintro e w2 ⟨rfl, h2, k2⟩
  have H2 := Lib.hid h2; have K2 := Lib.hid (K1.out.trans (k2.mono hX))
  clear h2 k2 H1 K1
  go_wp2_with fail
  refine (mUseFuse r _ _ _ w2 H2.out (by decide) (by decide)).mono ?_
  rintro e w3 ⟨rfl, h3, k3⟩
  have H3 := Lib.hid h3; have K3 := Lib.hid (K2.out.trans (k3.mono hX))
  clear h3 k3 H2 K2
  go_wp2_with fail
  refine (mUseFuse r _ _ _ w3 H3.out (by decide) (by decide)).mono ?_
  rintro e w4 ⟨rfl, h4, k4⟩
  have H4 := Lib.hid h4; have K4 := Lib.hid (K3.out.trans (k4.mono hX))
  clear h4 k4 H3 K3
  go_wp2_with fail
  refine (mUseDown r _ _ _ _ w4 H4.out (.inr (by decide))).mono ?_
  rintro e w5 ⟨rfl, h5, k5⟩
  have H5 := Lib.hid h5; have K5 := Lib.hid (K4.out.trans (k5.mono hX))
  clear h5 k5 H4 K4
  go_wp2_with fail
  refine (mOn r _ _ _ _ w5 H5.out).mono ?_
  rintro e _ ⟨rfl, rfl⟩
  go_wp2_with fail
  refine (mLives r _ _ _ _ w5 H5.out).mono ?_
  rintro e _ ⟨rfl, rfl⟩
  go_wp2_with fail
  refine (mUses r _ _ _ _ w5 H5.out).mono ?_
  rintro e _ ⟨rfl, rfl⟩
  rw [show wrap64 (wrap64 ((0 : Int) + 1) + 1) = 2 from by decide +kernel]
  go_wp2_with fail
  go_ret
  exact ⟨rfl, HR.out ▸ K5.out⟩

end Go.Proofs.Ytffleepdbeeloaa
