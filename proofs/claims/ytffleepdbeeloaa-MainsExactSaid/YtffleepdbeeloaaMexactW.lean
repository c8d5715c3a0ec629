/- MainsExact of layer 3: the walk: it returns true for every input and writes nothing that was there. -/
import Derived.Test.YtffleepdbeeloaaAw3
import Derived.Test.YtffleepdbeeloaaRef3
import Derived.Test.YtffleepdbeeloaaArgs
set_option linter.unusedVariables false
namespace Go.Proofs.Ytffleepdbeeloaa
open Go.RowKit

/-- Both powers, side by side, and the frame. -/
structure Both3 (w : World) (r u : Nat) (on : Bool) (lives uses fuse : Int) (W : World) : Prop where
  low : -9223372036854775808 ≤ fuse
  high : fuse ≤ 9223372036854775807
  m : IsM r on lives uses fuse W
  u : IsU3 u on (max fuse (-1)) lives uses W
  kept : KeptIn (· < w.heap.size) w W

theorem Both3.next {w : World} {r u : Nat} {on on' on2 : Bool} {lives uses fuse lives' uses' fuse' fu2 li2 us2 : Int} {W W1 W2 : World} (h : Both3 w r u on lives uses fuse W)
    (hr : ∀ k, k < w.heap.size → k ≠ r) (hu : ∀ k, k < w.heap.size → k ≠ u) (hru : r ≠ u) (hl : -9223372036854775808 ≤ fuse') (hh : fuse' ≤ 9223372036854775807)
    (h1 : IsM r on' lives' uses' fuse' W1) (k1 : KeptIn (· ≠ r) W W1) (h2 : IsU3 u on2 fu2 li2 us2 W2) (k2 : KeptIn (· ≠ u) W1 W2)
    (e1 : on2 = on') (e2 : fu2 = max fuse' (-1)) (e3 : li2 = lives') (e4 : us2 = uses') : Both3 w r u on' lives' uses' fuse' W2 := by
  subst e1 e2 e3 e4
  exact ⟨hl, hh, h1.kept k2 hru, h2, (h.kept.trans (k1.mono hr)).trans (k2.mono hu)⟩

theorem mOnQ {m : Nat} {on : Bool} {lives uses fuse : Int} {w : World} (h : IsM m on lives uses fuse w) (n : Nat) : Calls Try.prog 15 #[.pointer (some ⟨m, 0, none⟩)] (w.drewN n) fun e w' => e = .returned (.bool on) ∧ w' = w.drewN n :=
  (mOn m on lives uses fuse (w.drewN n) h).mono fun _ _ ⟨h1, h2⟩ => ⟨h1, h2.symm⟩
theorem mLivesQ {m : Nat} {on : Bool} {lives uses fuse : Int} {w : World} (h : IsM m on lives uses fuse w) (n : Nat) : Calls Try.prog 16 #[.pointer (some ⟨m, 0, none⟩)] (w.drewN n) fun e w' => e = .returned (.int .i64 lives) ∧ w' = w.drewN n :=
  (mLives m on lives uses fuse (w.drewN n) h).mono fun _ _ ⟨h1, h2⟩ => ⟨h1, h2.symm⟩
theorem mUsesQ {m : Nat} {on : Bool} {lives uses fuse : Int} {w : World} (h : IsM m on lives uses fuse w) (n : Nat) : Calls Try.prog 17 #[.pointer (some ⟨m, 0, none⟩)] (w.drewN n) fun e w' => e = .returned (.int .i64 uses) ∧ w' = w.drewN n :=
  (mUses m on lives uses fuse (w.drewN n) h).mono fun _ _ ⟨h1, h2⟩ => ⟨h1, h2.symm⟩


set_option maxHeartbeats 1000000 in
set_option maxRecDepth 100000 in
theorem mexactW (a0 : Option Addr) (len0 cap0 : Nat) (z0 : List Int) (a1 : Option Addr) (len1 cap1 : Nat) (z1 : List Int) (w : World) (w0 : IsRow .i64 w a0 len0 cap0 z0) (w1 : IsRow .i64 w a1 len1 cap1 z1) :
    Calls Try.prog 3 #[.slice a0 len0 cap0, .slice a1 len1 cap1] w fun e w' => e = .returned (.bool true) ∧ KeptIn (· < w.heap.size) w w' := by
  have l0 := w0.len_le; have l1 := w1.len_le
  unfold maxLen at l0 l1
  have b0 : (len0 : Int) ≤ 9223372036854775807 := by omega
  have b1 : (len1 : Int) ≤ 9223372036854775807 := by omega
  have W0 := Lib.hid w0; have W1 := Lib.hid w1
  clear w0 w1 l0 l1
  go_enter Try.func3, Try.ntmps3
  go_wp2_with fail
  refine (awake3 w).mono ?_
  rintro e w3 ⟨rfl, k3⟩
  go_wp2_with fail
  refine (mNew w3).mono ?_
  rintro e w4 ⟨rfl, h4, k4⟩
  have hX : ∀ k, k < w.heap.size → k ≠ w3.heap.size := fun k h => Nat.ne_of_lt (Nat.lt_of_lt_of_le h k3.size)
  have H4 := Lib.hid h4
  have K4 := Lib.hid (k3.trans (k4.mono fun k h => Nat.lt_of_lt_of_le h k3.size))
  clear h4 k4 k3
  generalize w3.heap.size = r at *
  go_wp2_with fail
  refine (uNew w4).mono ?_
  rintro e w5 ⟨rfl, h5, k5⟩
  have hru : r ≠ w4.heap.size := Nat.ne_of_lt H4.out.lt
  have hU : ∀ k, k < w.heap.size → k ≠ w4.heap.size := fun k h => Nat.ne_of_lt (Nat.lt_of_lt_of_le h K4.out.size)
  have H5 : Hid (Both3 w r w4.heap.size true 1 0 (-1) w5) := Lib.hid ⟨by decide, by decide, H4.out.kept k5 H4.out.lt, h5, K4.out.trans (k5.mono fun k h => Nat.lt_of_lt_of_le h K4.out.size)⟩
  clear h5 k5 H4 K4
  generalize w4.heap.size = u at *
  go_wp2_with fail
  go_loopw [7] (fun c W => ∃ (j : Nat) (W' : World) (on : Bool) (lives uses fuse : Int), W' = W ∧ j ≤ len0 ∧ j ≤ len1 ∧ j ≤ 100 ∧ c = .int .i64 j ∧ Hid (Both3 w r u on lives uses fuse W)) (fun c _ => 100 - (intOf c).toNat)
  case atStart => exact ⟨0, _, _, _, _, _, rfl, Nat.zero_le _, Nat.zero_le _, Nat.zero_le _, rfl, H5⟩
  case round =>
    obtain ⟨j, W, on, lives, uses, fuse, rfl, hj0, hj1, hj, rfl, HJ⟩ := hrel
    clear H5
    by_cases hlt : j < len0 ∧ j < len1 ∧ j < 100
    · obtain ⟨hl0, hl1, hl2⟩ := hlt
      have d0 : (0 : Int) ≤ (j : Int) := by omega
      have d1 : (j : Int) < (len0 : Int) := by omega
      have d2 : (j : Int) < (len1 : Int) := by omega
      have d3 : (j : Int) < 100 := by omega
      obtain ⟨ba, oa, rfl, hba, hca⟩ := W0.out.elem (by omega)
      obtain ⟨bb, ob, rfl, hbb, hcb⟩ := W1.out.elem (by omega)
      obtain ⟨ca, fa⟩ := hca j (by omega)
      obtain ⟨cb, fb⟩ := hcb j (by omega)
      generalize z0.getD j 0 = act at *
      generalize z1.getD j 0 = fz at *
      have bf := bounds_i64 fb
      have g0 := (World.cell?_of_block (a := ⟨ba, oa + j, none⟩) (HJ.out.kept.block ba hba)).trans ca
      have CB := Lib.hid cb
      clear hca hcb fa fb ca cb hj0 hj1 hj
      by_cases a1 : act = 1
      · subst a1
        go_wp2_with fail
        by_cases hd : on = false ∨ fuse = 0
        · refine (mUseDown r _ _ _ _ W HJ.out.m hd).mono ?_
          rintro e w6 ⟨rfl, h6, k6⟩
          have hU6 := HJ.out.u.kept k6 (Ne.symm hru)
          have H6 := Lib.hid h6; have K6 := Lib.hid k6; have HU6 := Lib.hid hU6
          have hd' : on = false ∨ max fuse (-1) = 0 := hd.imp id fun h => by omega
          clear h6 k6 hU6 g0 hd
          have HD := Lib.hid hd'; clear hd'
          go_wp2_with fail
          refine (uUseDown u _ _ _ _ w6 HU6.out HD.out).mono ?_
          rintro e w7 ⟨rfl, h7, k7⟩
          have HN : Hid (Both3 w r u false lives uses fuse w7) := Lib.hid (HJ.out.next hX hU hru HJ.out.low HJ.out.high H6.out K6.out h7 k7 rfl rfl rfl rfl)
          clear h7 k7 H6 K6 HU6 HD HJ
          have c0 := HN.out.u.c0; have c2 := HN.out.u.c2; have c3 := HN.out.u.c3
          go_wp2_with fail
          go_quiet (first | (go_at_call 15; exact Calls.quiet_of_same (mOnQ HN.out.m _)) | (go_at_call 16; exact Calls.quiet_of_same (mLivesQ HN.out.m _)) | (go_at_call 17; exact Calls.quiet_of_same (mUsesQ HN.out.m _)))
          go_wp2_with fail
          go_roundw
          case rel => exact ⟨j + 1, _, _, _, _, _, rfl, by omega, by omega, by omega, by go_num, Lib.hid ⟨HN.out.low, HN.out.high, HN.out.m, HN.out.u, HN.out.kept.drewN _⟩⟩
          case measure => simp [intOf]; omega
        · obtain ⟨hon, hf⟩ : on = true ∧ fuse ≠ 0 := by
            cases on
            · exact absurd (.inl rfl) hd
            · exact ⟨rfl, fun h => hd (.inr h)⟩
          subst hon
          clear hd
          by_cases hp : 0 < fuse
          · refine (mUseFuse r _ _ _ W HJ.out.m hp HJ.out.high).mono ?_
            rintro e w6 ⟨rfl, h6, k6⟩
            have hU6 := HJ.out.u.kept k6 (Ne.symm hru)
            have H6 := Lib.hid h6; have K6 := Lib.hid k6; have HU6 := Lib.hid hU6
            clear h6 k6 hU6 g0
            go_wp2_with fail
            refine (uUseOk u _ _ _ w6 HU6.out (by omega) (by omega) (by have := HJ.out.high; omega)).mono ?_
            rintro e w7 ⟨rfl, h7, k7⟩
            have HN : Hid (Both3 w r u true lives (wrap64 (uses + 1)) (fuse - 1) w7) := Lib.hid (HJ.out.next hX hU hru (by omega) (by have := HJ.out.high; omega) H6.out K6.out h7 k7 rfl (by omega) rfl rfl)
            clear h7 k7 H6 K6 HU6 HJ hf hp
            generalize wrap64 (uses + 1) = uses' at *
            generalize fuse - 1 = fuse' at *
            have c0 := HN.out.u.c0; have c2 := HN.out.u.c2; have c3 := HN.out.u.c3
            go_wp2_with fail
            go_quiet (first | (go_at_call 15; exact Calls.quiet_of_same (mOnQ HN.out.m _)) | (go_at_call 16; exact Calls.quiet_of_same (mLivesQ HN.out.m _)) | (go_at_call 17; exact Calls.quiet_of_same (mUsesQ HN.out.m _)))
            go_wp2_with fail
            go_roundw
            case rel => exact ⟨j + 1, _, _, _, _, _, rfl, by omega, by omega, by omega, by go_num, Lib.hid ⟨HN.out.low, HN.out.high, HN.out.m, HN.out.u, HN.out.kept.drewN _⟩⟩
            case measure => simp [intOf]; omega
          · refine (mUseOk r _ _ _ W HJ.out.m (by omega)).mono ?_
            rintro e w6 ⟨rfl, h6, k6⟩
            have hU6 := HJ.out.u.kept k6 (Ne.symm hru)
            have H6 := Lib.hid h6; have K6 := Lib.hid k6; have HU6 := Lib.hid hU6
            clear h6 k6 hU6 g0
            go_wp2_with fail
            refine (uUseOk u _ _ _ w6 HU6.out (by omega) (by omega) (by have := HJ.out.high; omega)).mono ?_
            rintro e w7 ⟨rfl, h7, k7⟩
            have HN : Hid (Both3 w r u true lives (wrap64 (uses + 1)) fuse w7) := Lib.hid (HJ.out.next hX hU hru HJ.out.low HJ.out.high H6.out K6.out h7 k7 rfl (by omega) rfl rfl)
            clear h7 k7 H6 K6 HU6 HJ hf hp
            generalize wrap64 (uses + 1) = uses' at *
            have c0 := HN.out.u.c0; have c2 := HN.out.u.c2; have c3 := HN.out.u.c3
            go_wp2_with fail
            go_quiet (first | (go_at_call 15; exact Calls.quiet_of_same (mOnQ HN.out.m _)) | (go_at_call 16; exact Calls.quiet_of_same (mLivesQ HN.out.m _)) | (go_at_call 17; exact Calls.quiet_of_same (mUsesQ HN.out.m _)))
            go_wp2_with fail
            go_roundw
            case rel => exact ⟨j + 1, _, _, _, _, _, rfl, by omega, by omega, by omega, by go_num, Lib.hid ⟨HN.out.low, HN.out.high, HN.out.m, HN.out.u, HN.out.kept.drewN _⟩⟩
            case measure => simp [intOf]; omega
      · by_cases a2 : act = 2
        · subst a2
          have g1 := (World.cell?_of_block (a := ⟨bb, ob + j, none⟩) (HJ.out.kept.block bb hbb)).trans CB.out
          go_wp2_with fail
          refine (mFuse r _ _ _ _ fz W HJ.out.m).mono ?_
          rintro e w6 ⟨rfl, h6, k6⟩
          have hU6 := HJ.out.u.kept k6 (Ne.symm hru)
          have q1 := (World.cell?_of_block (a := ⟨bb, ob + j, none⟩) ((HJ.out.kept.trans (k6.mono hX)).block bb hbb)).trans CB.out
          have p0 := hU6.c0; have p1 := hU6.c1; have p2 := hU6.c2; have p3 := hU6.c3; have f1 := hU6.f 1
          have H6 := Lib.hid h6; have K6 := Lib.hid k6; have HU6 := Lib.hid hU6
          have hmx : ∃ mx, max fz (-1) = mx := ⟨_, rfl⟩
          obtain ⟨mx, hmx⟩ := hmx
          clear h6 k6 hU6 g0 g1
          by_cases hs : fz < -1
          · go_wp2_with fail
            have hN : Both3 w r u on lives uses fz (w6.setCell ⟨u, 1, none⟩ (.int .i64 (-1))) := by
              refine HJ.out.next hX hU hru bf.1 bf.2 H6.out K6.out (W2 := w6.setCell ⟨u, 1, none⟩ (.int .i64 (-1))) (on2 := on) (fu2 := -1) (li2 := lives) (us2 := uses) ?_ ((KeptIn.refl _ _).setCell (p := ⟨u, 1, none⟩) (by simp) _) rfl (by omega) rfl rfl
              have H' := HU6.out
              unfold IsU3 at H'
              simp [IsU3, World.setCell, Array.getElem?_modify, H']
            have HN := Lib.hid hN
            clear hN p0 p1 p2 p3 f1 q1 H6 K6 HU6 HJ hmx
            have c0 := HN.out.u.c0; have c2 := HN.out.u.c2; have c3 := HN.out.u.c3
            go_wp2_with fail
            go_quiet (first | (go_at_call 15; exact Calls.quiet_of_same (mOnQ HN.out.m _)) | (go_at_call 16; exact Calls.quiet_of_same (mLivesQ HN.out.m _)) | (go_at_call 17; exact Calls.quiet_of_same (mUsesQ HN.out.m _)))
            go_wp2_with fail
            go_roundw
            case rel => exact ⟨j + 1, _, _, _, _, _, rfl, by omega, by omega, by omega, by go_num, Lib.hid ⟨HN.out.low, HN.out.high, HN.out.m, HN.out.u, HN.out.kept.drewN _⟩⟩
            case measure => simp [intOf]; omega
          · go_wp2_with fail
            have hN : Both3 w r u on lives uses fz (w6.setCell ⟨u, 1, none⟩ (.int .i64 fz)) := by
              refine HJ.out.next hX hU hru bf.1 bf.2 H6.out K6.out (W2 := w6.setCell ⟨u, 1, none⟩ (.int .i64 fz)) (on2 := on) (fu2 := fz) (li2 := lives) (us2 := uses) ?_ ((KeptIn.refl _ _).setCell (p := ⟨u, 1, none⟩) (by simp) _) rfl (by omega) rfl rfl
              have H' := HU6.out
              unfold IsU3 at H'
              simp [IsU3, World.setCell, Array.getElem?_modify, H']
            have HN := Lib.hid hN
            clear hN p0 p1 p2 p3 f1 q1 H6 K6 HU6 HJ hmx
            have c0 := HN.out.u.c0; have c2 := HN.out.u.c2; have c3 := HN.out.u.c3
            go_wp2_with fail
            go_quiet (first | (go_at_call 15; exact Calls.quiet_of_same (mOnQ HN.out.m _)) | (go_at_call 16; exact Calls.quiet_of_same (mLivesQ HN.out.m _)) | (go_at_call 17; exact Calls.quiet_of_same (mUsesQ HN.out.m _)))
            go_wp2_with fail
            go_roundw
            case rel => exact ⟨j + 1, _, _, _, _, _, rfl, by omega, by omega, by omega, by go_num, Lib.hid ⟨HN.out.low, HN.out.high, HN.out.m, HN.out.u, HN.out.kept.drewN _⟩⟩
            case measure => simp [intOf]; omega
        · by_cases a3 : act = 3
          · subst a3
            go_wp2_with fail
            refine (mCut r _ _ _ _ W HJ.out.m).mono ?_
            rintro e w6 ⟨rfl, h6, k6⟩
            have hU6 := HJ.out.u.kept k6 (Ne.symm hru)
            have p0 := hU6.c0; have f1 := hU6.f 0
            have H6 := Lib.hid h6; have K6 := Lib.hid k6; have HU6 := Lib.hid hU6
            clear h6 k6 hU6 g0
            go_wp2_with fail
            have hN : Both3 w r u false lives uses fuse (w6.setCell ⟨u, 0, none⟩ (.bool false)) := by
              refine HJ.out.next hX hU hru HJ.out.low HJ.out.high H6.out K6.out (W2 := w6.setCell ⟨u, 0, none⟩ (.bool false)) (on2 := false) (fu2 := max fuse (-1)) (li2 := lives) (us2 := uses) ?_ ((KeptIn.refl _ _).setCell (p := ⟨u, 0, none⟩) (by simp) _) rfl rfl rfl rfl
              have H' := HU6.out
              unfold IsU3 at H'
              simp [IsU3, World.setCell, Array.getElem?_modify, H']
            have HN := Lib.hid hN
            clear hN p0 f1 H6 K6 HU6 HJ
            have c0 := HN.out.u.c0; have c2 := HN.out.u.c2; have c3 := HN.out.u.c3
            go_wp2_with fail
            go_quiet (first | (go_at_call 15; exact Calls.quiet_of_same (mOnQ HN.out.m _)) | (go_at_call 16; exact Calls.quiet_of_same (mLivesQ HN.out.m _)) | (go_at_call 17; exact Calls.quiet_of_same (mUsesQ HN.out.m _)))
            go_wp2_with fail
            go_roundw
            case rel => exact ⟨j + 1, _, _, _, _, _, rfl, by omega, by omega, by omega, by go_num, Lib.hid ⟨HN.out.low, HN.out.high, HN.out.m, HN.out.u, HN.out.kept.drewN _⟩⟩
            case measure => simp [intOf]; omega
          · by_cases a4 : act = 4
            · subst a4
              cases on
              · go_wp2_with fail
                refine (mComeOff r _ _ _ W HJ.out.m).mono ?_
                rintro e w6 ⟨rfl, h6, k6⟩
                have hU6 := HJ.out.u.kept k6 (Ne.symm hru)
                have H6 := Lib.hid h6; have K6 := Lib.hid k6; have HU6 := Lib.hid hU6
                clear h6 k6 hU6 g0
                go_wp2_with fail
                refine (uComeOff u _ _ _ w6 HU6.out).mono ?_
                rintro e w7 ⟨rfl, h7, k7⟩
                have HN : Hid (Both3 w r u true (wrap64 (lives + 1)) uses (-1) w7) := Lib.hid (HJ.out.next hX hU hru (by decide) (by decide) H6.out K6.out h7 k7 rfl rfl rfl rfl)
                clear h7 k7 H6 K6 HU6 HJ
                generalize wrap64 (lives + 1) = lives' at *
                have c0 := HN.out.u.c0; have c2 := HN.out.u.c2; have c3 := HN.out.u.c3
                go_wp2_with fail
                go_quiet (first | (go_at_call 15; exact Calls.quiet_of_same (mOnQ HN.out.m _)) | (go_at_call 16; exact Calls.quiet_of_same (mLivesQ HN.out.m _)) | (go_at_call 17; exact Calls.quiet_of_same (mUsesQ HN.out.m _)))
                go_wp2_with fail
                go_roundw
                case rel => exact ⟨j + 1, _, _, _, _, _, rfl, by omega, by omega, by omega, by go_num, Lib.hid ⟨HN.out.low, HN.out.high, HN.out.m, HN.out.u, HN.out.kept.drewN _⟩⟩
                case measure => simp [intOf]; omega
              · go_wp2_with fail
                refine (mComeOn r _ _ _ W HJ.out.m).mono ?_
                rintro e _ ⟨rfl, rfl⟩
                clear g0
                go_wp2_with fail
                refine (uComeOn u _ _ _ _ HJ.out.u).mono ?_
                rintro e _ ⟨rfl, rfl⟩
                have HN := HJ
                clear HJ
                have c0 := HN.out.u.c0; have c2 := HN.out.u.c2; have c3 := HN.out.u.c3
                go_wp2_with fail
                go_quiet (first | (go_at_call 15; exact Calls.quiet_of_same (mOnQ HN.out.m _)) | (go_at_call 16; exact Calls.quiet_of_same (mLivesQ HN.out.m _)) | (go_at_call 17; exact Calls.quiet_of_same (mUsesQ HN.out.m _)))
                go_wp2_with fail
                go_roundw
                case rel => exact ⟨j + 1, _, _, _, _, _, rfl, by omega, by omega, by omega, by go_num, Lib.hid ⟨HN.out.low, HN.out.high, HN.out.m, HN.out.u, HN.out.kept.drewN _⟩⟩
                case measure => simp [intOf]; omega
            · go_wp2_with fail
              clear g0
              have HN := HJ
              clear HJ
              have c0 := HN.out.u.c0; have c2 := HN.out.u.c2; have c3 := HN.out.u.c3
              go_wp2_with fail
              go_quiet (first | (go_at_call 15; exact Calls.quiet_of_same (mOnQ HN.out.m _)) | (go_at_call 16; exact Calls.quiet_of_same (mLivesQ HN.out.m _)) | (go_at_call 17; exact Calls.quiet_of_same (mUsesQ HN.out.m _)))
              go_wp2_with fail
              go_roundw
              case rel => exact ⟨j + 1, _, _, _, _, _, rfl, by omega, by omega, by omega, by go_num, Lib.hid ⟨HN.out.low, HN.out.high, HN.out.m, HN.out.u, HN.out.kept.drewN _⟩⟩
              case measure => simp [intOf]; omega
    · have HK := Lib.hid HJ.out.kept
      clear HJ
      by_cases hl0 : (j : Int) < (len0 : Int)
      · by_cases hl1 : (j : Int) < (len1 : Int)
        · have hl2 : ¬ (j : Int) < 100 := by omega
          go_wp2_with fail
          refine (mFuseNil 1 _).mono ?_
          rintro e _ ⟨rfl, rfl⟩
          go_wp2_with fail
          refine (mCutNil _).mono ?_
          rintro e _ ⟨rfl, rfl⟩
          go_wp2_with fail
          refine (mComeNil _).mono ?_
          rintro e _ ⟨rfl, rfl⟩
          go_wp2_with fail
          refine (mUseNil _).mono ?_
          rintro e _ ⟨rfl, rfl⟩
          go_wp2_with fail
          refine (mOnNil _).mono ?_
          rintro e _ ⟨rfl, rfl⟩
          go_wp2_with fail
          refine (mLivesNil _).mono ?_
          rintro e _ ⟨rfl, rfl⟩
          go_wp2_with fail
          refine (mUsesNil _).mono ?_
          rintro e _ ⟨rfl, rfl⟩
          go_wp2_with fail
          go_ret
          exact ⟨rfl, HK.out⟩
        · go_wp2_with fail
          refine (mFuseNil 1 _).mono ?_
          rintro e _ ⟨rfl, rfl⟩
          go_wp2_with fail
          refine (mCutNil _).mono ?_
          rintro e _ ⟨rfl, rfl⟩
          go_wp2_with fail
          refine (mComeNil _).mono ?_
          rintro e _ ⟨rfl, rfl⟩
          go_wp2_with fail
          refine (mUseNil _).mono ?_
          rintro e _ ⟨rfl, rfl⟩
          go_wp2_with fail
          refine (mOnNil _).mono ?_
          rintro e _ ⟨rfl, rfl⟩
          go_wp2_with fail
          refine (mLivesNil _).mono ?_
          rintro e _ ⟨rfl, rfl⟩
          go_wp2_with fail
          refine (mUsesNil _).mono ?_
          rintro e _ ⟨rfl, rfl⟩
          go_wp2_with fail
          go_ret
          exact ⟨rfl, HK.out⟩
      · go_wp2_with fail
        refine (mFuseNil 1 _).mono ?_
        rintro e _ ⟨rfl, rfl⟩
        go_wp2_with fail
        refine (mCutNil _).mono ?_
        rintro e _ ⟨rfl, rfl⟩
        go_wp2_with fail
        refine (mComeNil _).mono ?_
        rintro e _ ⟨rfl, rfl⟩
        go_wp2_with fail
        refine (mUseNil _).mono ?_
        rintro e _ ⟨rfl, rfl⟩
        go_wp2_with fail
        refine (mOnNil _).mono ?_
        rintro e _ ⟨rfl, rfl⟩
        go_wp2_with fail
        refine (mLivesNil _).mono ?_
        rintro e _ ⟨rfl, rfl⟩
        go_wp2_with fail
        refine (mUsesNil _).mono ?_
        rintro e _ ⟨rfl, rfl⟩
        go_wp2_with fail
        go_ret
        exact ⟨rfl, HK.out⟩

end Go.Proofs.Ytffleepdbeeloaa
