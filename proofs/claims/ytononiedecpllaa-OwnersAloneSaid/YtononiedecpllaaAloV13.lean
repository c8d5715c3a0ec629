/- OwnersAlone of layer 13: the walk, where both owners are one; the whole. -/
import Derived.Test.YtononiedecpllaaAlo13
import Derived.Test.YtononiedecpllaaAloW13
set_option linter.unusedVariables false
namespace Go.Proofs.Ytononiedecpllaa
open Go.RowKit Go.Maps Go.Sort

set_option maxHeartbeats 16000000 in
set_option maxRecDepth 100000 in
theorem aloEq (a : Option Addr) (len cap : Nat) (o z : Ow) (w : World) (w0 : IsActs13 w a len) (hzo : z = o) :
    Calls Try.prog 4 #[.slice a len cap, ownV o, ownV z] w fun e w' => e = .returned (.bool true) ∧ KeptIn (· < w.heap.size) w w' := by
  have HZO := Lib.hid hzo
  clear hzo
  have l0 := w0.len_le
  unfold maxLen at l0
  have b0 : (len : Int) ≤ 9223372036854775807 := by omega
  obtain ⟨W0, hW0⟩ : ∃ W, (w.alloc (.cells #[.int .i64 o.vol, .int .i64 o.bir, .int .i64 o.pos] 31)).alloc (.cells #[.int .i64 z.vol, .int .i64 z.bir, .int .i64 z.pos] 31) = W := ⟨_, rfl⟩
  have k0 : KeptIn (· < w.heap.size) w W0 := by rw [← hW0]; exact ((KeptIn.refl _ w).alloc (fun _ h => h) _).alloc (fun _ h => h) _
  have bo : BoxO w.heap.size o W0 := by rw [← hW0]; exact (BoxO.new w o).old ((KeptIn.refl _ _).alloc (fun _ h => h) _)
  have bz : BoxO (w.heap.size + 1) z W0 := by rw [← hW0, show w.heap.size + 1 = (w.alloc (.cells #[.int .i64 o.vol, .int .i64 o.bir, .int .i64 o.pos] 31)).heap.size by simp]; exact BoxO.new _ z
  have WA := Lib.hid w0
  have HW0 := Lib.hid hW0
  have w5 : (Lit.int .i64 (5 : Int)).wf = true := by decide
  have q1 := Lib.hid fun V => neqOw z o V
  have q2 := Lib.hid fun V => eqOw z o V
  unfold ownV at q1 q2 ⊢
  clear w0 l0 hW0
  by_cases hlen : len ≤ 60
  rotate_left
  · have d9 : (60 : Int) < (len : Int) := by omega
    clear q1 q2
    go_enter Try.func4, Try.ntmps4
    go_wp2_with fail
    rw [HW0.out]
    go_wp2_with fail
    refine (awake13 W0).mono ?_
    rintro e W1 ⟨rfl, k1⟩
    have HK1 := Lib.hid (k0.on k1)
    clear k0 k1 bo bz HW0
    go_wp2_with fail
    go_ret
    exact ⟨rfl, HK1.out⟩
  have d9 : ¬ (60 : Int) < (len : Int) := by omega
  have d8 : (len : Int) ≤ 60 := by omega
  go_enter Try.func4, Try.ntmps4
  go_wp2_with fail
  rw [HW0.out]
  go_wp2_with fail
  refine (awake13 W0).mono ?_
  rintro e W1 ⟨rfl, k1⟩
  have HK1 := Lib.hid (k0.on k1)
  have HBO := Lib.hid (bo.old k1)
  have HBZ := Lib.hid (bz.old k1)
  clear k0 k1 bo bz HW0
  go_wp2_with fail
  refine (owNew W1).mono ?_
  rintro e W2 hN
  unfold NewO at hN
  obtain ⟨b, D, rfl, hb, hk⟩ := hN
  have H2 := Lib.hid (Bo.new hb hk)
  have CA := Lib.hid (H2.out.add 5 w5 o (by simp))
  rw [(al_zero o).1, (al_zero o).2] at CA
  unfold ownV at CA
  obtain ⟨o0, o1, o2⟩ := (HBO.out.old hk).cells
  clear hb hk
  go_wp2_with (go_at_call 8; refine CA.out.mono ?_)
  rintro e W3 hD
  obtain ⟨rfl, h3, -⟩ := hD
  have H3 := Lib.hid h3
  clear h3 CA o0 o1 o2 H2
  obtain ⟨o0, o1, o2⟩ := (HBO.out.old H3.out.kept).cells
  have CL := Lib.hid (H3.out.alone 5 w5 o)
  rw [alone_yes (setF_same _ _ _) (.inl rfl)] at CL
  unfold ownV at CL
  go_wp2_with (go_at_call 17; refine CL.out.mono ?_)
  rintro e W4 ⟨rfl, k4⟩
  have HI0 : Hid (Al13 W1 b o (setF (fun _ => []) 5 [o]) (fun _ => []) 1 W4) := Lib.hid ⟨H3.out.old k4, fun c => (by
    unfold setF
    split <;> simp), setF_same _ _ _, .inl rfl⟩
  clear CL k4 H3 o0 o1 o2
  go_wp2_with fail
  go_loopw [8, 9] (fun i _ wr => ∃ (j : Nat) (V : World) (f h : Int → List Ow), V = wr ∧ j ≤ len ∧ i = .int .i64 (j : Int) ∧ Hid (Al13 W1 b o f h (j + 1) V)) (fun i _ _ => len - (intOf i).toNat)
  case atStart => exact ⟨0, _, _, _, rfl, Nat.zero_le _, rfl, HI0⟩
  case round =>
    obtain ⟨j, V, f, h, rfl, hj, rfl, HJ⟩ := hrel
    clear HI0
    have d0 : (0 : Int) ≤ (j : Int) := by omega
    by_cases hlt : j < len
    · have d1 : (j : Int) < (len : Int) := by omega
      obtain ⟨ab, off, rfl, hab, _, hel⟩ : ∃ b off, a = some ⟨b, off, none⟩ ∧ b < w.heap.size ∧ len ≤ maxLen ∧ _ := WA.out.resolve_left (by omega)
      obtain ⟨kd, c, q, wk, wc, e0, e1, e2, e3, e4⟩ := hel j hlt
      have hkw : KeptIn (· < w.heap.size) w V := HK1.out.on HJ.out.1.kept
      have g0 := (World.cell?_of_block (hkw.block ab hab)).trans e0
      have g1 := (World.cell?_of_block (hkw.block ab hab)).trans e1
      have g2 := (World.cell?_of_block (hkw.block ab hab)).trans e2
      have g3 := (World.cell?_of_block (hkw.block ab hab)).trans e3
      have g4 := (World.cell?_of_block (hkw.block ab hab)).trans e4
      rw [Nat.add_zero] at g0
      have hA5 : BoxA13 V.heap.size kd c q (V.alloc (.cells #[.int .i64 kd, .int .i64 c, .int .i64 q.vol, .int .i64 q.bir, .int .i64 q.pos] 33)) := heap_alloc_new V _
      have H5 : Hid (Al13 W1 b o f h (j + 1) (V.alloc (.cells #[.int .i64 kd, .int .i64 c, .int .i64 q.vol, .int .i64 q.bir, .int .i64 q.pos] 33)) ∧ BoxA13 V.heap.size kd c q (V.alloc (.cells #[.int .i64 kd, .int .i64 c, .int .i64 q.vol, .int .i64 q.bir, .int .i64 q.pos] 33))) :=
        Lib.hid ⟨⟨HJ.out.1.old ((KeptIn.refl _ V).alloc (fun _ h => h) _), HJ.out.2⟩, hA5⟩
      have HWF := Lib.hid (And.intro wk wc)
      clear e0 e1 e2 e3 e4 hel wk wc hA5 HJ hkw hlt
      go_upto_region 12 with fail
      clear g0 g1 g2 g3 g4
      generalize V.alloc (.cells #[.int .i64 kd, .int .i64 c, .int .i64 q.vol, .int .i64 q.bir, .int .i64 q.pos] 33) = W5 at *
      generalize V.heap.size = y at *
      obtain ⟨p0, p1, p2, p3, p4⟩ := H5.out.2.cells
      have bk := bounds_i64 HWF.out.1
      have bc := bounds_i64 HWF.out.2
      by_cases hc5 : c = 5
      · subst hc5
        by_cases h4 : kd = 4
        · subst h4
          have C := Lib.hid H5.out.1.1.commit
          go_wp2_with (go_at_call 14; refine C.out.mono ?_)
          rintro e V2 hD
          obtain ⟨rfl, h3, -⟩ := hD
          have H6 : Hid (Al13 W1 b o f f (j + 1 + 1) V2) := Lib.hid ⟨h3, H5.out.1.2.1.mono (by omega), H5.out.1.2.2.1, .inr H5.out.1.2.2.1⟩
          clear h3 C H5 p0 p1 p2 p3 p4
          clear bk bc HWF WA
          obtain ⟨o0, o1, o2⟩ := (HBO.out.old H6.out.1.kept).cells
          have CL := Lib.hid (H6.out.1.alone 5 w5 o)
          rw [alone_yes H6.out.2.2.1 H6.out.2.2.2] at CL
          unfold ownV at CL
          go_wp2_with (go_at_call 17; refine CL.out.mono ?_)
          rintro e V3 ⟨rfl, k3⟩
          have H7 : Hid (Al13 W1 b o _ _ (j + 1 + 1) V3) := Lib.hid ⟨H6.out.1.old k3, H6.out.2⟩
          clear CL k3 H6 o0 o1 o2
          obtain ⟨o0, o1, o2⟩ := (HBO.out.old H7.out.1.kept).cells
          obtain ⟨z0, z1, z2⟩ := (HBZ.out.old H7.out.1.kept).cells
          have r1 := q1.out
          rw [decide_eq_true HZO.out] at r1
          simp only [Bool.not_true] at r1
          have CN := Lib.hid (H7.out.1.count 5 w5)
          rw [H7.out.2.2.1] at CN
          simp only [List.length_singleton] at CN
          go_wp2_with (go_at_call 16; refine CN.out.mono ?_; rintro e _ ⟨rfl, rfl⟩)
          clear o0 o1 o2 z0 z1 z2 r1
          go_roundw
          case rel => exact ⟨j + 1, _, _, _, rfl, by omega, by go_num, H7⟩
          case measure => simp [intOf]; omega
        · have b4 : (kd == 4) = false := by rw [beq_eq_false_iff_ne]; exact h4
          have b5 : (kd != 4) = true := by rw [bne, b4]; rfl
          have HX : Hid (Al13 W1 b o f h (j + 1 + 1) W5) := Lib.hid ⟨H5.out.1.1, H5.out.1.2.1.mono (by omega), H5.out.1.2.2⟩
          clear H5
          go_wp2_with fail
          go_roundw
          case rel => exact ⟨j + 1, _, _, _, rfl, by omega, by go_num, HX⟩
          case measure => simp [intOf]; omega
      · have b5 : (c == 5) = false := by rw [beq_eq_false_iff_ne]; exact hc5
        by_cases k1 : kd = 1
        · subst k1
          have C := Lib.hid (H5.out.1.1.add c HWF.out.2 q (H5.out.1.2.1.le (by omega) c))
          unfold ownV at C
          go_wp2_with (go_at_call 8; refine C.out.mono ?_)
          rintro e V2 hD
          obtain ⟨rfl, h3, -⟩ := hD
          have H6 : Hid (Al13 W1 b o (addF f c q) h (j + 1 + 1) V2) := Lib.hid ⟨h3, H5.out.1.2.1.add c q, by rw [addF_other _ _ (Ne.symm hc5)]; exact H5.out.1.2.2.1, H5.out.1.2.2.2⟩
          clear h3 C H5 p0 p1 p2 p3 p4
          clear bk bc HWF WA
          obtain ⟨o0, o1, o2⟩ := (HBO.out.old H6.out.1.kept).cells
          have CL := Lib.hid (H6.out.1.alone 5 w5 o)
          rw [alone_yes H6.out.2.2.1 H6.out.2.2.2] at CL
          unfold ownV at CL
          go_wp2_with (go_at_call 17; refine CL.out.mono ?_)
          rintro e V3 ⟨rfl, k3⟩
          have H7 : Hid (Al13 W1 b o _ _ (j + 1 + 1) V3) := Lib.hid ⟨H6.out.1.old k3, H6.out.2⟩
          clear CL k3 H6 o0 o1 o2
          obtain ⟨o0, o1, o2⟩ := (HBO.out.old H7.out.1.kept).cells
          obtain ⟨z0, z1, z2⟩ := (HBZ.out.old H7.out.1.kept).cells
          have r1 := q1.out
          rw [decide_eq_true HZO.out] at r1
          simp only [Bool.not_true] at r1
          have CN := Lib.hid (H7.out.1.count 5 w5)
          rw [H7.out.2.2.1] at CN
          simp only [List.length_singleton] at CN
          go_wp2_with (go_at_call 16; refine CN.out.mono ?_; rintro e _ ⟨rfl, rfl⟩)
          clear o0 o1 o2 z0 z1 z2 r1
          go_roundw
          case rel => exact ⟨j + 1, _, _, _, rfl, by omega, by go_num, H7⟩
          case measure => simp [intOf]; omega
        · by_cases k2 : kd = 2
          · subst k2
            have C := Lib.hid (H5.out.1.1.add c HWF.out.2 q (H5.out.1.2.1.le (by omega) c))
            unfold ownV at C
            go_wp2_with (go_at_call 8; refine C.out.mono ?_)
            rintro e V2 hD
            obtain ⟨rfl, h3, -⟩ := hD
            have H6 : Hid (Al13 W1 b o (addF f c q) h (j + 1 + 1) V2) := Lib.hid ⟨h3, H5.out.1.2.1.add c q, by rw [addF_other _ _ (Ne.symm hc5)]; exact H5.out.1.2.2.1, H5.out.1.2.2.2⟩
            clear h3 C H5 p0 p1 p2 p3 p4
            clear bk bc HWF WA
            obtain ⟨o0, o1, o2⟩ := (HBO.out.old H6.out.1.kept).cells
            have CL := Lib.hid (H6.out.1.alone 5 w5 o)
            rw [alone_yes H6.out.2.2.1 H6.out.2.2.2] at CL
            unfold ownV at CL
            go_wp2_with (go_at_call 17; refine CL.out.mono ?_)
            rintro e V3 ⟨rfl, k3⟩
            have H7 : Hid (Al13 W1 b o _ _ (j + 1 + 1) V3) := Lib.hid ⟨H6.out.1.old k3, H6.out.2⟩
            clear CL k3 H6 o0 o1 o2
            obtain ⟨o0, o1, o2⟩ := (HBO.out.old H7.out.1.kept).cells
            obtain ⟨z0, z1, z2⟩ := (HBZ.out.old H7.out.1.kept).cells
            have r1 := q1.out
            rw [decide_eq_true HZO.out] at r1
            simp only [Bool.not_true] at r1
            have CN := Lib.hid (H7.out.1.count 5 w5)
            rw [H7.out.2.2.1] at CN
            simp only [List.length_singleton] at CN
            go_wp2_with (go_at_call 16; refine CN.out.mono ?_; rintro e _ ⟨rfl, rfl⟩)
            clear o0 o1 o2 z0 z1 z2 r1
            go_roundw
            case rel => exact ⟨j + 1, _, _, _, rfl, by omega, by go_num, H7⟩
            case measure => simp [intOf]; omega
          · by_cases k3 : kd = 3
            · subst k3
              have C := Lib.hid (H5.out.1.1.remove c HWF.out.2 q (H5.out.1.2.1.le (by omega) c))
              unfold ownV at C
              go_wp2_with (go_at_call 11; refine C.out.mono ?_)
              rintro e V2 hD
              obtain ⟨rfl, h3, -⟩ := hD
              have H6 : Hid (Al13 W1 b o (remF f c q) h (j + 1 + 1) V2) := Lib.hid ⟨h3, (H5.out.1.2.1.rem c q).mono (by omega), by rw [remF_other _ _ (Ne.symm hc5)]; exact H5.out.1.2.2.1, H5.out.1.2.2.2⟩
              clear h3 C H5 p0 p1 p2 p3 p4
              clear bk bc HWF WA
              obtain ⟨o0, o1, o2⟩ := (HBO.out.old H6.out.1.kept).cells
              have CL := Lib.hid (H6.out.1.alone 5 w5 o)
              rw [alone_yes H6.out.2.2.1 H6.out.2.2.2] at CL
              unfold ownV at CL
              go_wp2_with (go_at_call 17; refine CL.out.mono ?_)
              rintro e V3 ⟨rfl, k3⟩
              have H7 : Hid (Al13 W1 b o _ _ (j + 1 + 1) V3) := Lib.hid ⟨H6.out.1.old k3, H6.out.2⟩
              clear CL k3 H6 o0 o1 o2
              obtain ⟨o0, o1, o2⟩ := (HBO.out.old H7.out.1.kept).cells
              obtain ⟨z0, z1, z2⟩ := (HBZ.out.old H7.out.1.kept).cells
              have r1 := q1.out
              rw [decide_eq_true HZO.out] at r1
              simp only [Bool.not_true] at r1
              have CN := Lib.hid (H7.out.1.count 5 w5)
              rw [H7.out.2.2.1] at CN
              simp only [List.length_singleton] at CN
              go_wp2_with (go_at_call 16; refine CN.out.mono ?_; rintro e _ ⟨rfl, rfl⟩)
              clear o0 o1 o2 z0 z1 z2 r1
              go_roundw
              case rel => exact ⟨j + 1, _, _, _, rfl, by omega, by go_num, H7⟩
              case measure => simp [intOf]; omega
            · have b1 : (kd == 1) = false := by rw [beq_eq_false_iff_ne]; exact k1
              have b2 : (kd == 2) = false := by rw [beq_eq_false_iff_ne]; exact k2
              have b3 : (kd == 3) = false := by rw [beq_eq_false_iff_ne]; exact k3
              have C := Lib.hid H5.out.1.1.commit
              go_wp2_with (go_at_call 14; refine C.out.mono ?_)
              rintro e V2 hD
              obtain ⟨rfl, h3, -⟩ := hD
              have H6 : Hid (Al13 W1 b o f f (j + 1 + 1) V2) := Lib.hid ⟨h3, H5.out.1.2.1.mono (by omega), H5.out.1.2.2.1, .inr H5.out.1.2.2.1⟩
              clear h3 C H5 p0 p1 p2 p3 p4
              clear bk bc HWF WA
              obtain ⟨o0, o1, o2⟩ := (HBO.out.old H6.out.1.kept).cells
              have CL := Lib.hid (H6.out.1.alone 5 w5 o)
              rw [alone_yes H6.out.2.2.1 H6.out.2.2.2] at CL
              unfold ownV at CL
              go_wp2_with (go_at_call 17; refine CL.out.mono ?_)
              rintro e V3 ⟨rfl, k3⟩
              have H7 : Hid (Al13 W1 b o _ _ (j + 1 + 1) V3) := Lib.hid ⟨H6.out.1.old k3, H6.out.2⟩
              clear CL k3 H6 o0 o1 o2
              obtain ⟨o0, o1, o2⟩ := (HBO.out.old H7.out.1.kept).cells
              obtain ⟨z0, z1, z2⟩ := (HBZ.out.old H7.out.1.kept).cells
              have r1 := q1.out
              rw [decide_eq_true HZO.out] at r1
              simp only [Bool.not_true] at r1
              have CN := Lib.hid (H7.out.1.count 5 w5)
              rw [H7.out.2.2.1] at CN
              simp only [List.length_singleton] at CN
              go_wp2_with (go_at_call 16; refine CN.out.mono ?_; rintro e _ ⟨rfl, rfl⟩)
              clear o0 o1 o2 z0 z1 z2 r1
              go_roundw
              case rel => exact ⟨j + 1, _, _, _, rfl, by omega, by go_num, H7⟩
              case measure => simp [intOf]; omega
    · have d1 : ¬ (j : Int) < (len : Int) := by omega
      have hdup : addE f 5 z = 8 := by rw [HZO.out]; exact al_dup HJ.out.2.2.1
      have CA := Lib.hid (HJ.out.1.add 5 w5 z (HJ.out.2.1.le (by omega) 5))
      rw [hdup] at CA
      unfold ownV at CA
      obtain ⟨o0, o1, o2⟩ := (HBO.out.old HJ.out.1.kept).cells
      obtain ⟨z0, z1, z2⟩ := (HBZ.out.old HJ.out.1.kept).cells
      have r1 := q2.out
      rw [decide_eq_true HZO.out] at r1
      clear hdup hlt HJ
      go_wp2_with (go_at_call 8; refine CA.out.mono ?_)
      rintro e Y1 hD
      obtain ⟨rfl, h1, -⟩ := hD
      have HKE := Lib.hid (HK1.out.on h1.kept)
      clear h1 CA o0 o1 o2 z0 z1 z2 r1
      go_wp2_with fail
      go_ret
      exact ⟨rfl, HKE.out⟩

theorem aloW13 (a : Option Addr) (len cap : Nat) (o z : Ow) (w : World) (w0 : IsActs13 w a len) (_ : True) (_ : True) :
    Calls Try.prog 4 #[.slice a len cap, ownV o, ownV z] w fun e w' => e = .returned (.bool true) ∧ KeptIn (· < w.heap.size) w w' := by
  by_cases h : z = o
  · exact aloEq a len cap o z w w0 h
  · exact aloNe a len cap o z w w0 h

end Go.Proofs.Ytononiedecpllaa
