/- awake of the statements of layer 1: it returns true and leaves all that was there. -/
import Derived.Test.YtifealfkcfcbeaaDoorRd
set_option linter.unusedVariables false
namespace Go.Proofs.YtifealfkcfcbeaaDoor
open Go.RowKit

set_option maxHeartbeats 1000000 in
set_option maxRecDepth 100000 in
theorem awake1 (w : World) : Calls Tryd.prog 7 #[] w fun e w' => e = .returned (.bool true) ∧ KeptIn (· < w.heap.size) w w' := by
  obtain ⟨X, hXd⟩ : ∃ X : Nat → Prop, X = (· < w.heap.size) := ⟨_, rfl⟩
  rw [← hXd]
  obtain ⟨a, ha⟩ : ∃ a, a = w.heap.size := ⟨_, rfl⟩
  have hX : ∀ k, X k → k < w.heap.size := fun k h => by rw [hXd] at h; exact h
  have h0 : Holds X a [] (w.alloc (.cells #[.pointer none, .int .i64 0, .int .i64 0] 27)) := ha ▸ Holds.fresh X w hX
  have k0 : KeptIn X w (w.alloc (.cells #[.pointer none, .int .i64 0, .int .i64 0] 27)) := (KeptIn.refl _ _).alloc hX _
  have Hd := Lib.hid hXd; clear hXd
  go_enter Tryd.func7, Tryd.ntmps7
  go_wp2_with fail
  rw [← ha]
  clear ha
  refine (hPut X a [] 258 2 _ h0 (k0.lt hX) (by decide) (by decide)).mono ?_
  rintro e w1 ⟨rfl, h1, k1⟩
  replace h1 : Holds X a [2, 1] w1 := h1
  replace k1 := k0.trans k1
  clear h0 k0
  go_wp2_with fail
  refine (hText X a [2, 1] ⟨#[97]⟩ _ h1 (k1.lt hX) (by decide)).mono ?_
  rintro e w2 ⟨rfl, h2, k2⟩
  replace h2 : Holds X a [2, 1, 97] w2 := h2
  replace k2 := k1.trans k2
  clear h1 k1
  go_wp2_with fail
  refine (hFill X a [2, 1, 97] 5 _ h2 (by decide) (by decide)).mono ?_
  rintro e w3 ⟨rfl, h3, k3⟩
  replace h3 : Holds X a [2, 1, 97, 0, 0] w3 := h3
  replace k3 := k2.trans k3
  clear h2 k2
  go_wp2_with fail
  refine (hString X a [2, 1, 97, 0, 0] _ h3 (k3.lt hX) (by decide)).mono ?_
  rintro e w4 ⟨rfl, h4, k4⟩
  replace k4 := k3.trans k4
  clear h3 k3
  go_wp2_with fail
  refine (ofW _ w4).mono ?_
  rintro e w5 ⟨rfl, r5, k5⟩
  have h5 := (h4.beyond w4.heap.size (Nat.le_refl _)).old k5
  have hrX : ¬ X w4.heap.size := fun h => Nat.lt_irrefl _ (k4.lt hX _ h)
  have hX5 : ∀ k, also X w4.heap.size k → k < w5.heap.size := also_lt (fun k h => Nat.lt_of_lt_of_le (k4.lt hX k h) k5.size) r5.lt
  replace k5 := k4.trans (k5.mono (k4.lt hX))
  clear h4 k4
  generalize w4.heap.size = r at *
  go_wp2_with fail
  refine (hString (also X r) a [2, 1, 97, 0, 0] _ h5 hX5 (by decide)).mono ?_
  rintro e w6 ⟨rfl, h6, k6⟩
  have r6 := r5.kept k6 (.inr rfl)
  replace k6 := k5.trans (k6.mono (fun _ => .inl))
  clear h5 k5 r5 hX5
  go_wp2_with fail
  refine (hLen (also X r) a [2, 1, 97, 0, 0] _ h6 (by decide)).mono ?_
  rintro e w7' ⟨rfl, n, rfl⟩
  obtain ⟨w7, hw7⟩ : ∃ w7, w7 = w6.drewN n := ⟨_, rfl⟩
  rw [← hw7]
  have r7 : IsR r [2, 1, 97, 0, 0] false w7 := hw7 ▸ r6
  have k7 : KeptIn X w w7 := hw7 ▸ k6.drewN n
  clear hw7 h6 k6 r6
  go_wp2_with fail
  refine (getW X r _ _ 2 _ r7 hrX (k7.lt hX) (by decide)).mono ?_
  rintro e w8 ⟨rfl, r8, k8⟩
  replace r8 : IsR r [97, 0, 0] false w8 := r8
  replace k8 := k7.trans k8
  clear r7 k7
  rw [show numLE (takeR (min (max 2 1) 8) [2, 1, 97, 0, 0] false).1 = 258 from by decide]
  go_wp2_with fail
  refine (takeW r _ _ 1 _ r8 (by decide)).mono ?_
  rintro e w9 ⟨rfl, r9, k9⟩
  replace r9 : IsR r [0, 0] false w9 := r9
  replace k9 := k8.trans (k9.mono (fun k h e => hrX (e ▸ h)))
  clear r8 k8
  rw [show (takeR 1 [97, 0, 0] false).1 = [97] from by decide]
  go_wp2_with fail
  refine (endW r _ _ _ r9).mono ?_
  rintro e _ ⟨rfl, rfl⟩
  rw [show endOf [0, 0] false = 3 from by decide]
  go_wp2_with fail
  refine (zerosW r _ _ _ r9).mono ?_
  rintro e w10 ⟨rfl, r10, k10⟩
  replace k10 := k9.trans (k10.mono (fun k h e => hrX (e ▸ h)))
  clear r9 k9
  rw [show ([0, 0] : List UInt8).all (· == 0) = true from by decide]
  go_wp2_with fail
  refine (endW r _ _ _ r10).mono ?_
  rintro e _ ⟨rfl, rfl⟩
  rw [show endOf [] false = 0 from by decide]
  go_wp2_with fail
  refine (getW X r _ _ 1 _ r10 hrX (k10.lt hX) (by decide)).mono ?_
  rintro e w11 ⟨rfl, r11, k11⟩
  replace r11 : IsR r [] true w11 := r11
  replace k11 := k10.trans k11
  clear r10 k10
  rw [show numLE (takeR (min (max 1 1) 8) [] false).1 = 0 from by decide]
  go_wp2_with fail
  refine (endW r _ _ _ r11).mono ?_
  rintro e _ ⟨rfl, rfl⟩
  rw [show endOf [] true = 3 from by decide]
  go_wp2
  go_ret
  exact ⟨rfl, k11⟩

end Go.Proofs.YtifealfkcfcbeaaDoor
