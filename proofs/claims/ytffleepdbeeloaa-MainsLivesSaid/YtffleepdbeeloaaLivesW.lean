/- MainsLives of layer 3: the walk: it returns true for every input and writes nothing that was there. -/
import Derived.Test.YtffleepdbeeloaaAw3
import Derived.Test.YtffleepdbeeloaaBools
set_option linter.unusedVariables false
namespace Go.Proofs.Ytffleepdbeeloaa
open Go.RowKit

set_option maxHeartbeats 1000000 in
set_option maxRecDepth 100000 in
theorem livesW (a : Option Addr) (len cap : Nat) (w : World) (w0 : IsBools w a len) :
    Calls Try.prog 5 #[.slice a len cap] w fun e w' => e = .returned (.bool true) ∧ KeptIn (· < w.heap.size) w w' := by
  have l0 := w0.len_le
  unfold maxLen at l0
  have b0 : (len : Int) ≤ 9223372036854775807 := by omega
  have W0 := Lib.hid w0
  clear w0 l0
  go_enter Try.func5, Try.ntmps5
  go_wp2_with fail
  refine (awake3 w).mono ?_
  rintro e w3 ⟨rfl, k3⟩
  go_wp2_with fail
  refine (mNew w3).mono ?_
  rintro e w4 ⟨rfl, h4, k4⟩
  have hX : ∀ k, k < w.heap.size → k ≠ w3.heap.size := fun k h => Nat.ne_of_lt (Nat.lt_of_lt_of_le h k3.size)
  have H4 : Hid (IsM w3.heap.size true ((1 : Nat) : Int) ((0 : Nat) : Int) (-1) w4 ∧ KeptIn (· < w.heap.size) w w4) := Lib.hid ⟨h4, k3.trans (k4.mono fun k h => Nat.lt_of_lt_of_le h k3.size)⟩
  clear h4 k4 k3
  generalize w3.heap.size = r at *
  go_wp2_with fail
  go_loopw [4, 5, 6, 7] (fun li us on c W => ∃ (j : Nat) (W' : World) (x y : Nat) (b : Bool), W' = W ∧ j ≤ len ∧ j ≤ 100 ∧ x ≤ j + 1 ∧ y ≤ j ∧ li = .int .i64 x ∧ us = .int .i64 y ∧ on = .bool b ∧ c = .int .i64 j ∧ Hid (IsM r b (x : Int) (y : Int) (-1) W ∧ KeptIn (· < w.heap.size) w W)) (fun _ _ _ c _ => 100 - (intOf c).toNat)
  case atStart => exact ⟨0, _, 1, 0, true, rfl, Nat.zero_le _, Nat.zero_le _, Nat.le_refl _, Nat.le_refl _, rfl, rfl, rfl, rfl, H4⟩
  case round =>
    obtain ⟨j, W, x, y, b, rfl, hj, hj1, hx, hy, rfl, rfl, rfl, rfl, HJ⟩ := hrel
    clear H4
    by_cases hlt : j < len
    · have d1 : (j : Int) < (len : Int) := by omega
      by_cases hlt1 : j < 100
      · have d0 : (0 : Int) ≤ (j : Int) := by omega
        have d2 : (j : Int) < 100 := by omega
        have x0 : (0 : Int) ≤ (x : Int) := by omega
        have x1 : (x : Int) ≤ 101 := by omega
        have y0 : (0 : Int) ≤ (y : Int) := by omega
        have y1 : (y : Int) ≤ 100 := by omega
        obtain ⟨bb, off, rfl, hb, _, hel⟩ : ∃ b off, a = some ⟨b, off, none⟩ ∧ b < w.heap.size ∧ len ≤ maxLen ∧ _ := W0.out.resolve_left (by omega)
        obtain ⟨cut, e0⟩ := hel j hlt
        have g0 := (World.cell?_of_block (HJ.out.2.block bb hb)).trans e0
        clear e0 hel
        cases cut
        · cases b
          · go_wp2_with fail
            refine (mComeOff r _ _ _ W HJ.out.1).mono ?_
            rintro e w5 ⟨rfl, h5, k5⟩
            have H5 := Lib.hid h5; have K5 := Lib.hid (HJ.out.2.trans (k5.mono hX))
            clear h5 k5 HJ g0
            go_wp2_with fail
            refine (mUseOk r _ _ _ w5 H5.out (by decide)).mono ?_
            rintro e w6 ⟨rfl, h6, k6⟩
            have H6 : Hid (IsM r true ((x + 1 : Nat) : Int) ((y + 1 : Nat) : Int) (-1) w6 ∧ KeptIn (· < w.heap.size) w w6) := by
              rw [show wrap64 ((x : Int) + 1) = ((x + 1 : Nat) : Int) from by unfold wrap64; omega, show wrap64 ((y : Int) + 1) = ((y + 1 : Nat) : Int) from by unfold wrap64; omega] at h6
              exact Lib.hid ⟨h6, K5.out.trans (k6.mono hX)⟩
            clear h6 k6 H5 K5
            go_wp2_with fail
            refine (mOn r _ _ _ _ w6 H6.out.1).mono ?_
            rintro e _ ⟨rfl, rfl⟩
            go_wp2_with fail
            refine (mLives r _ _ _ _ w6 H6.out.1).mono ?_
            rintro e _ ⟨rfl, rfl⟩
            go_wp2_with fail
            refine (mUses r _ _ _ _ w6 H6.out.1).mono ?_
            rintro e _ ⟨rfl, rfl⟩
            go_wp2_with fail
            go_roundw
            case rel => exact ⟨j + 1, _, x + 1, y + 1, true, rfl, by omega, by omega, by omega, by omega, by go_num, by go_num, rfl, by go_num, H6⟩
            case measure => simp [intOf]; omega
          · go_wp2_with fail
            refine (mComeOn r _ _ _ W HJ.out.1).mono ?_
            rintro e _ ⟨rfl, rfl⟩
            clear g0
            go_wp2_with fail
            refine (mUseOk r _ _ _ _ HJ.out.1 (by decide)).mono ?_
            rintro e w6 ⟨rfl, h6, k6⟩
            have H6 : Hid (IsM r true (x : Int) ((y + 1 : Nat) : Int) (-1) w6 ∧ KeptIn (· < w.heap.size) w w6) := by
              rw [show wrap64 ((y : Int) + 1) = ((y + 1 : Nat) : Int) from by unfold wrap64; omega] at h6
              exact Lib.hid ⟨h6, HJ.out.2.trans (k6.mono hX)⟩
            clear h6 k6 HJ
            go_wp2_with fail
            refine (mOn r _ _ _ _ w6 H6.out.1).mono ?_
            rintro e _ ⟨rfl, rfl⟩
            go_wp2_with fail
            refine (mLives r _ _ _ _ w6 H6.out.1).mono ?_
            rintro e _ ⟨rfl, rfl⟩
            go_wp2_with fail
            refine (mUses r _ _ _ _ w6 H6.out.1).mono ?_
            rintro e _ ⟨rfl, rfl⟩
            go_wp2_with fail
            go_roundw
            case rel => exact ⟨j + 1, _, x, y + 1, true, rfl, by omega, by omega, by omega, by omega, rfl, by go_num, rfl, by go_num, H6⟩
            case measure => simp [intOf]; omega
        · go_wp2_with fail
          refine (mCut r _ _ _ _ W HJ.out.1).mono ?_
          rintro e w5 ⟨rfl, h5, k5⟩
          have H5 := Lib.hid h5; have K5 := Lib.hid (HJ.out.2.trans (k5.mono hX))
          clear h5 k5 HJ g0
          go_wp2_with fail
          refine (mUseDown r _ _ _ _ w5 H5.out (.inl rfl)).mono ?_
          rintro e w6 ⟨rfl, h6, k6⟩
          have H6 : Hid (IsM r false (x : Int) (y : Int) (-1) w6 ∧ KeptIn (· < w.heap.size) w w6) := Lib.hid ⟨h6, K5.out.trans (k6.mono hX)⟩
          clear h6 k6 H5 K5
          go_wp2_with fail
          refine (mOn r _ _ _ _ w6 H6.out.1).mono ?_
          rintro e _ ⟨rfl, rfl⟩
          go_wp2_with fail
          refine (mLives r _ _ _ _ w6 H6.out.1).mono ?_
          rintro e _ ⟨rfl, rfl⟩
          go_wp2_with fail
          refine (mUses r _ _ _ _ w6 H6.out.1).mono ?_
          rintro e _ ⟨rfl, rfl⟩
          go_wp2_with fail
          go_roundw
          case rel => exact ⟨j + 1, _, x, y, false, rfl, by omega, by omega, by omega, by omega, rfl, rfl, rfl, by go_num, H6⟩
          case measure => simp [intOf]; omega
      · have d2 : ¬ (j : Int) < 100 := by omega
        go_wp2_with fail
        go_ret
        exact ⟨rfl, HJ.out.2⟩
    · have d1 : ¬ (j : Int) < (len : Int) := by omega
      go_wp2_with fail
      go_ret
      exact ⟨rfl, HJ.out.2⟩

end Go.Proofs.Ytffleepdbeeloaa
