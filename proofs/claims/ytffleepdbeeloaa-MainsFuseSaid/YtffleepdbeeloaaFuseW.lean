/- MainsFuse of layer 3: the walk: it returns true for every input and writes nothing that was there. -/
import Derived.Test.YtffleepdbeeloaaAw3
import Derived.Test.YtffleepdbeeloaaNums
set_option linter.unusedVariables false
namespace Go.Proofs.Ytffleepdbeeloaa
open Go.RowKit

set_option maxHeartbeats 1000000 in
set_option maxRecDepth 100000 in
theorem fuseW (n tries : Int) (w : World) (w0 : (Lit.int .i64 n).wf = true) (w1 : (Lit.int .i64 tries).wf = true) :
    Calls Try.prog 4 #[.int .i64 n, .int .i64 tries] w fun e w' => e = .returned (.bool true) ∧ KeptIn (· < w.heap.size) w w' := by
  obtain ⟨k, hk, hkw⟩ : ∃ k : Nat, k < 100 ∧ wrap64 ((IntKind.u64.wrap n).tmod 100) = (k : Int) := modWalk n 100 (by decide) (by decide)
  obtain ⟨t, ht, htw⟩ : ∃ t : Nat, t < 9 ∧ wrap64 ((IntKind.u64.wrap tries).tmod 9) = (t : Int) := modWalk tries 9 (by decide) (by decide)
  have k0 : (0 : Int) ≤ (k : Int) := by omega
  have k1 : (k : Int) < 100 := by omega
  have t0 : (0 : Int) ≤ (t : Int) := by omega
  have t1 : (t : Int) < 9 := by omega
  clear w0 w1
  go_enter Try.func4, Try.ntmps4
  go_wp2_with fail
  refine (awake3 w).mono ?_
  rintro e w3 ⟨rfl, k3⟩
  go_wp2_with fail
  refine (mNew w3).mono ?_
  rintro e w4 ⟨rfl, h4, k4⟩
  have hX : ∀ k, k < w.heap.size → k ≠ w3.heap.size := fun k h => Nat.ne_of_lt (Nat.lt_of_lt_of_le h k3.size)
  have H4 := Lib.hid h4; have K4 := Lib.hid (k3.trans (k4.mono fun k h => Nat.lt_of_lt_of_le h k3.size))
  clear h4 k4 k3
  generalize w3.heap.size = r at *
  go_wp2_with fail
  rw [hkw]
  refine (mFuse r _ _ _ _ (k : Int) w4 H4.out).mono ?_
  rintro e w5 ⟨rfl, h5, k5⟩
  have H5 : Hid (IsM r true 1 ((0 : Nat) : Int) ((k : Int) - ((0 : Nat) : Int)) w5 ∧ KeptIn (· < w.heap.size) w w5) := Lib.hid ⟨by rw [show ((k : Int) - ((0 : Nat) : Int)) = (k : Int) from by omega]; exact h5, K4.out.trans (k5.mono hX)⟩
  clear h5 k5 H4 K4 hkw
  go_wp2_with fail
  go_loopw [7] (fun c W => ∃ (j : Nat) (W' : World), W' = W ∧ j ≤ k ∧ c = .int .i64 j ∧ Hid (IsM r true 1 (j : Int) ((k : Int) - (j : Int)) W ∧ KeptIn (· < w.heap.size) w W)) (fun c _ => k - (intOf c).toNat)
  case atStart => exact ⟨0, _, rfl, Nat.zero_le _, rfl, H5⟩
  case round =>
    obtain ⟨j, W, rfl, hj, rfl, HJ⟩ := hrel
    clear H5
    by_cases hlt : j < k
    · have d0 : (0 : Int) ≤ (j : Int) := by omega
      have d1 : (j : Int) < (k : Int) := by omega
      go_wp2_with fail
      refine (mUseFuse r _ _ _ W HJ.out.1 (by omega) (by omega)).mono ?_
      rintro e w6 ⟨rfl, h6, k6⟩
      have H6 : Hid (IsM r true 1 ((j + 1 : Nat) : Int) ((k : Int) - ((j + 1 : Nat) : Int)) w6 ∧ KeptIn (· < w.heap.size) w w6) := by
        rw [show wrap64 ((j : Int) + 1) = ((j + 1 : Nat) : Int) from by unfold wrap64; omega, show (k : Int) - (j : Int) - 1 = (k : Int) - ((j + 1 : Nat) : Int) from by omega] at h6
        exact Lib.hid ⟨h6, HJ.out.2.trans (k6.mono hX)⟩
      clear h6 k6 HJ
      go_wp2_with fail
      go_roundw
      case rel => exact ⟨j + 1, _, rfl, by omega, by go_num, H6⟩
      case measure => simp [intOf]; omega
    · obtain rfl : j = k := by omega
      have H6 : Hid (IsM r true 1 (j : Int) 0 W ∧ KeptIn (· < w.heap.size) w W) := by
        have h := HJ.out.1
        rw [show (j : Int) - (j : Int) = 0 from by omega] at h
        exact Lib.hid ⟨h, HJ.out.2⟩
      clear HJ hlt hj
      go_wp2_with fail
      go_loopw [8] (fun c V => ∃ (i : Nat) (V' : World), V' = V ∧ i ≤ t + 1 ∧ c = .int .i64 i ∧ Hid ((∃ on, IsM r on 1 (j : Int) 0 V ∧ (on = false ∨ i = 0)) ∧ KeptIn (· < w.heap.size) w V)) (fun c _ => t + 1 - (intOf c).toNat)
      case atStart => exact ⟨0, _, rfl, Nat.zero_le _, rfl, Lib.hid ⟨⟨true, H6.out.1, .inr rfl⟩, H6.out.2⟩⟩
      case round =>
        obtain ⟨i, V, rfl, hi, rfl, HI⟩ := hrel
        clear H6
        by_cases hle : i ≤ t
        · have d0 : (0 : Int) ≤ (i : Int) := by omega
          have d1 : (i : Int) ≤ (t : Int) := by omega
          obtain ⟨⟨on, hM, _⟩, hK⟩ := HI.out
          have HM := Lib.hid hM; have HK := Lib.hid hK
          clear hM hK HI
          go_wp2_with fail
          refine (mUseDown r _ _ _ _ V HM.out (.inr rfl)).mono ?_
          rintro e w7 ⟨rfl, h7, k7⟩
          have H7 := Lib.hid h7
          have K7 := Lib.hid (HK.out.trans (k7.mono hX))
          clear h7 k7 HM HK
          go_wp2_with fail
          refine (mOn r _ _ _ _ w7 H7.out).mono ?_
          rintro e _ ⟨rfl, rfl⟩
          go_wp2_with fail
          refine (mUses r _ _ _ _ w7 H7.out).mono ?_
          rintro e _ ⟨rfl, rfl⟩
          go_wp2_with fail
          go_roundw
          case rel => exact ⟨i + 1, _, rfl, by omega, by go_num, Lib.hid ⟨⟨_, H7.out, .inl rfl⟩, K7.out⟩⟩
          case measure => simp [intOf]; omega
        · obtain rfl : i = t + 1 := by omega
          have d1 : ¬ ((t + 1 : Nat) : Int) ≤ (t : Int) := by omega
          obtain ⟨⟨on, hM, hon⟩, hK⟩ := HI.out
          obtain rfl : on = false := hon.resolve_right (by omega)
          have HM := Lib.hid hM; have HK := Lib.hid hK
          clear hM hK HI hon hle hi
          go_wp2_with fail
          refine (mComeOff r _ _ _ V HM.out).mono ?_
          rintro e w8 ⟨rfl, h8, k8⟩
          rw [show wrap64 ((1 : Int) + 1) = 2 from by decide +kernel] at h8
          have H8 : Hid (IsM r true 2 (((j + 0 : Nat)) : Int) (-1) w8 ∧ KeptIn (· < w.heap.size) w w8) := Lib.hid ⟨h8, HK.out.trans (k8.mono hX)⟩
          clear h8 k8 HM HK
          go_wp2_with fail
          go_loopw [9] (fun c V => ∃ (i : Nat) (V' : World), V' = V ∧ i ≤ 2 * j + 1 ∧ c = .int .i64 i ∧ Hid (IsM r true 2 ((j + i : Nat) : Int) (-1) V ∧ KeptIn (· < w.heap.size) w V)) (fun c _ => 2 * j + 1 - (intOf c).toNat)
          case atStart => exact ⟨0, _, rfl, Nat.zero_le _, rfl, H8⟩
          case round =>
            obtain ⟨i, V, rfl, hi, rfl, HI⟩ := hrel
            clear H8
            by_cases hle : i < 2 * j + 1
            · have d0 : (0 : Int) ≤ (i : Int) := by omega
              have d2 : (i : Int) < 2 * (j : Int) + 1 := by omega
              go_wp2_with fail
              refine (mUseOk r _ _ _ V HI.out.1 (by omega)).mono ?_
              rintro e w9 ⟨rfl, h9, k9⟩
              have H9 : Hid (IsM r true 2 ((j + (i + 1) : Nat) : Int) (-1) w9 ∧ KeptIn (· < w.heap.size) w w9) := by
                rw [show wrap64 (((j + i : Nat) : Int) + 1) = ((j + (i + 1) : Nat) : Int) from by unfold wrap64; omega] at h9
                exact Lib.hid ⟨h9, HI.out.2.trans (k9.mono hX)⟩
              clear h9 k9 HI
              go_wp2_with fail
              go_roundw
              case rel => exact ⟨i + 1, _, rfl, by omega, by go_num, H9⟩
              case measure => simp [intOf]; omega
            · obtain rfl : i = 2 * j + 1 := by omega
              have HM : Hid (IsM r true 2 (3 * (j : Int) + 1) (-1) V) := by
                have := HI.out.1
                rw [show ((j + (2 * j + 1) : Nat) : Int) = 3 * (j : Int) + 1 from by omega] at this
                exact Lib.hid this
              have HK := Lib.hid HI.out.2
              have d2 : ¬ ((2 * j + 1 : Nat) : Int) < 2 * (j : Int) + 1 := by omega
              clear HI hle hi
              go_wp2_with fail
              refine (mLives r _ _ _ _ V HM.out).mono ?_
              rintro e _ ⟨rfl, rfl⟩
              go_wp2_with fail
              refine (mUses r _ _ _ _ V HM.out).mono ?_
              rintro e _ ⟨rfl, rfl⟩
              go_wp2_with fail
              go_ret
              exact ⟨rfl, HK.out⟩

end Go.Proofs.Ytffleepdbeeloaa
