/- OwnersAlone of layer 13: the walk: it returns true for every input and writes nothing that was there. -/
import Derived.Test.YtononiedecpllaaAlo13
import Derived.Test.YtononiedecpllaaFreW13
set_option linter.unusedVariables false
namespace Go.Proofs.Ytononiedecpllaa
open Go.RowKit Go.Maps Go.Sort

set_option maxHeartbeats 16000000 in
set_option maxRecDepth 100000 in
theorem aloNe (a : Option Addr) (len cap : Nat) (o z : Ow) (w : World) (w0 : IsActs13 w a len) (hzo : z ≠ o) :
    Calls Try.prog 4 #[.slice a len cap, ownV o, ownV z] w fun e w' => e = .returned (.bool true) ∧ KeptIn (· < w.heap.size) w w' := by
  have l0 := w0.len_le
  unfold maxLen at l0
  have b0 : (len : Int) ≤ 9223372036854775807 := by omega
  obtain ⟨W0, hW0⟩ : ∃ W, (w.alloc (.cells #[.int .i64 o.vol, .int .i64 o.bir, .int .i64 o.pos] 31)).alloc (.cells #[.int .i64 z.vol, .int .i64 z.bir, .int .i64 z.pos] 31) = W := ⟨_, rfl⟩
  have k0 : KeptIn (· < w.heap.size) w W0 := by rw [← hW0]; exact ((KeptIn.refl _ w).alloc (fun _ h => h) _).alloc (fun _ h => h) _
  have bo : BoxO w.heap.size o W0 := by rw [← hW0]; exact (BoxO.new w o).old ((KeptIn.refl _ _).alloc (fun _ h => h) _)
  have bz : BoxO (w.heap.size + 1) z W0 := by rw [← hW0, show w.heap.size + 1 = (w.alloc (.cells #[.int .i64 o.vol, .int .i64 o.bir, .int .i64 o.pos] 31)).heap.size by simp]; exact BoxO.new _ z
  have WA := Lib.hid w0
  have HW0 := Lib.hid hW0
  have w5 : (Lit.int .i64 (5 : Int)).wf = true := by decide
  have q1 := Lib.hid fun V => neqOw z o V
  have q2 := Lib.hid fun V => eqOw z o V
  unfold ownV at q1 q2 ⊢
  clear w0 l0 hW0
  by_cases hlen : len ≤ 60
  rotate_left
  · have d9 : (60 : Int) < (len : Int) := by omega
    clear q1 q2
    go_enter Try.func4, Try.ntmps4
    go_wp2_with fail
    rw [HW0.out]
    go_wp2_with fail
    refine (awake13 W0).mono ?_
    rintro e W1 ⟨rfl, k1⟩
    have HK1 := Lib.hid (k0.on k1)
    clear k0 k1 bo bz HW0
    go_wp2_with fail
    go_ret
    exact ⟨rfl, HK1.out⟩
  have d9 : ¬ (60 : Int) < (len : Int) := by omega
  have d8 : (len : Int) ≤ 60 := by omega
  go_enter Try.func4, Try.ntmps4
  go_wp2_with fail
  rw [HW0.out]
  go_wp2_with fail
  refine (awake13 W0).mono ?_
  rintro e W1 ⟨rfl, k1⟩
  have HK1 := Lib.hid (k0.on k1)
  have HBO := Lib.hid (bo.old k1)
  have HBZ := Lib.hid (bz.old k1)
  clear k0 k1 bo bz HW0
  go_wp2_with fail
  refine (owNew W1).mono ?_
  rintro e W2 hN
  unfold NewO at hN
  obtain ⟨b, D, rfl, hb, hk⟩ := hN
  have H2 := Lib.hid (Bo.new hb hk)
  have CA := Lib.hid (H2.out.add 5 w5 o (by simp))
  rw [(al_zero o).1, (al_zero o).2] at CA
  unfold ownV at CA
  obtain ⟨o0, o1, o2⟩ := (HBO.out.old hk).cells
  clear hb hk
  go_wp2_with (go_at_call 8; refine CA.out.mono ?_)
  rintro e W3 hD
  obtain ⟨rfl, h3, -⟩ := hD
  have H3 := Lib.hid h3
  clear h3 CA o0 o1 o2 H2
  obtain ⟨o0, o1, o2⟩ := (HBO.out.old H3.out.kept).cells
  have CL := Lib.hid (H3.out.alone 5 w5 o)
  rw [alone_yes (setF_same _ _ _) (.inl rfl)] at CL
  unfold ownV at CL
  go_wp2_with (go_at_call 17; refine CL.out.mono ?_)
  rintro e W4 ⟨rfl, k4⟩
  have HI0 : Hid (Al13 W1 b o (setF (fun _ => []) 5 [o]) (fun _ => []) 1 W4) := Lib.hid ⟨H3.out.old k4, fun c => (by
    unfold setF
    split <;> simp), setF_same _ _ _, .inl rfl⟩
  clear CL k4 H3 o0 o1 o2
  go_wp2_with fail
  go_loopw [8, 9] (fun i _ wr => ∃ (j : Nat) (V : World) (f h : Int → List Ow), V = wr ∧ j ≤ len ∧ i = .int .i64 (j : Int) ∧ Hid (Al13 W1 b o f h (j + 1) V)) (fun i _ _ => len - (intOf i).toNat)
  case atStart => exact ⟨0, _, _, _, rfl, Nat.zero_le _, rfl, HI0⟩
  case round =>
    obtain ⟨j, V, f, h, rfl, hj, rfl, HJ⟩ := hrel
    clear HI0
    have d0 : (0 : Int) ≤ (j : Int) := by omega
    by_cases hlt : j < len
    · have d1 : (j : Int) < (len : Int) := by omega
      obtain ⟨ab, off, rfl, hab, _, hel⟩ : ∃ b off, a = some ⟨b, off, none⟩ ∧ b < w.heap.size ∧ len ≤ maxLen ∧ _ := WA.out.resolve_left (by omega)
      obtain ⟨kd, c, q, wk, wc, e0, e1, e2, e3, e4⟩ := hel j hlt
      have hkw : KeptIn (· < w.heap.size) w V := HK1.out.on HJ.out.1.kept
      have g0 := (World.cell?_of_block (hkw.block ab hab)).trans e0
      have g1 := (World.cell?_of_block (hkw.block ab hab)).trans e1
      have g2 := (World.cell?_of_block (hkw.block ab hab)).trans e2
      have g3 := (World.cell?_of_block (hkw.block ab hab)).trans e3
      have g4 := (World.cell?_of_block (hkw.block ab hab)).trans e4
      rw [Nat.add_zero] at g0
      have hA5 : BoxA13 V.heap.size kd c q (V.alloc (.cells #[.int .i64 kd, .int .i64 c, .int .i64 q.vol, .int .i64 q.bir, .int .i64 q.pos] 33)) := heap_alloc_new V _
      have H5 : Hid (Al13 W1 b o f h (j + 1) (V.alloc (.cells #[.int .i64 kd, .int .i64 c, .int .i64 q.vol, .int .i64 q.bir, .int .i64 q.pos] 33)) ∧ BoxA13 V.heap.size kd c q (V.alloc (.cells #[.int .i64 kd, .int .i64 c, .int .i64 q.vol, .int .i64 q.bir, .int .i64 q.pos] 33))) :=
        Lib.hid ⟨⟨HJ.out.1.old ((KeptIn.refl _ V).alloc (fun _ h => h) _), HJ.out.2⟩, hA5⟩
      have HWF := Lib.hid (And.intro wk wc)
      clear e0 e1 e2 e3 e4 hel wk wc hA5 HJ hkw hlt
      go_upto_region 12 with fail
      clear g0 g1 g2 g3 g4
      generalize V.alloc (.cells #[.int .i64 kd, .int .i64 c, .int .i64 q.vol, .int .i64 q.bir, .int .i64 q.pos] 33) = W5 at *
      generalize V.heap.size = y at *
      obtain ⟨p0, p1, p2, p3, p4⟩ := H5.out.2.cells
      have bk := bounds_i64 HWF.out.1
      have bc := bounds_i64 HWF.out.2
      by_cases hc5 : c = 5
      · subst hc5
        by_cases h4 : kd = 4
        · subst h4
          have C := Lib.hid H5.out.1.1.commit
          go_wp2_with (go_at_call 14; refine C.out.mono ?_)
          rintro e V2 hD
          obtain ⟨rfl, h3, -⟩ := hD
          have H6 : Hid (Al13 W1 b o f f (j + 1 + 1) V2) := Lib.hid ⟨h3, H5.out.1.2.1.mono (by omega), H5.out.1.2.2.1, .inr H5.out.1.2.2.1⟩
          clear h3 C H5 p0 p1 p2 p3 p4
          clear bk bc HWF WA
          obtain ⟨o0, o1, o2⟩ := (HBO.out.old H6.out.1.kept).cells
          have CL := Lib.hid (H6.out.1.alone 5 w5 o)
          rw [alone_yes H6.out.2.2.1 H6.out.2.2.2] at CL
          unfold ownV at CL
          go_wp2_with (go_at_call 17; refine CL.out.mono ?_)
          rintro e V3 ⟨rfl, k3⟩
          have H7 : Hid (Al13 W1 b o _ _ (j + 1 + 1) V3) := Lib.hid ⟨H6.out.1.old k3, H6.out.2⟩
          clear CL k3 H6 o0 o1 o2
          obtain ⟨o0, o1, o2⟩ := (HBO.out.old H7.out.1.kept).cells
          obtain ⟨z0, z1, z2⟩ := (HBZ.out.old H7.out.1.kept).cells
          have r1 := q1.out
          rw [decide_eq_false hzo] at r1
          simp only [Bool.not_false] at r1
          have CL := Lib.hid (H7.out.1.alone 5 w5 z)
          rw [alone_no H7.out.2.2.1 hzo] at CL
          unfold ownV at CL
          go_wp2_with (go_at_call 17; refine CL.out.mono ?_)
          rintro e V4 ⟨rfl, k4⟩
          have H8 : Hid (Al13 W1 b o _ _ (j + 1 + 1) V4) := Lib.hid ⟨H7.out.1.old k4, H7.out.2⟩
          have CN := Lib.hid (H8.out.1.count 5 w5)
          rw [H8.out.2.2.1] at CN
          simp only [List.length_singleton] at CN
          clear CL k4 H7 o0 o1 o2 z0 z1 z2 r1
          go_wp2_with (go_at_call 16; refine CN.out.mono ?_; rintro e _ ⟨rfl, rfl⟩)
          go_roundw
          case rel => exact ⟨j + 1, _, _, _, rfl, by omega, by go_num, H8⟩
          case measure => simp [intOf]; omega
        · have b4 : (kd == 4) = false := by rw [beq_eq_false_iff_ne]; exact h4
          have b5 : (kd != 4) = true := by rw [bne, b4]; rfl
          have HX : Hid (Al13 W1 b o f h (j + 1 + 1) W5) := Lib.hid ⟨H5.out.1.1, H5.out.1.2.1.mono (by omega), H5.out.1.2.2⟩
          clear H5
          go_wp2_with fail
          go_roundw
          case rel => exact ⟨j + 1, _, _, _, rfl, by omega, by go_num, HX⟩
          case measure => simp [intOf]; omega
      · have b5 : (c == 5) = false := by rw [beq_eq_false_iff_ne]; exact hc5
        by_cases k1 : kd = 1
        · subst k1
          have C := Lib.hid (H5.out.1.1.add c HWF.out.2 q (H5.out.1.2.1.le (by omega) c))
          unfold ownV at C
          go_wp2_with (go_at_call 8; refine C.out.mono ?_)
          rintro e V2 hD
          obtain ⟨rfl, h3, -⟩ := hD
          have H6 : Hid (Al13 W1 b o (addF f c q) h (j + 1 + 1) V2) := Lib.hid ⟨h3, H5.out.1.2.1.add c q, by rw [addF_other _ _ (Ne.symm hc5)]; exact H5.out.1.2.2.1, H5.out.1.2.2.2⟩
          clear h3 C H5 p0 p1 p2 p3 p4
          clear bk bc HWF WA
          obtain ⟨o0, o1, o2⟩ := (HBO.out.old H6.out.1.kept).cells
          have CL := Lib.hid (H6.out.1.alone 5 w5 o)
          rw [alone_yes H6.out.2.2.1 H6.out.2.2.2] at CL
          unfold ownV at CL
          go_wp2_with (go_at_call 17; refine CL.out.mono ?_)
          rintro e V3 ⟨rfl, k3⟩
          have H7 : Hid (Al13 W1 b o _ _ (j + 1 + 1) V3) := Lib.hid ⟨H6.out.1.old k3, H6.out.2⟩
          clear CL k3 H6 o0 o1 o2
          obtain ⟨o0, o1, o2⟩ := (HBO.out.old H7.out.1.kept).cells
          obtain ⟨z0, z1, z2⟩ := (HBZ.out.old H7.out.1.kept).cells
          have r1 := q1.out
          rw [decide_eq_false hzo] at r1
          simp only [Bool.not_false] at r1
          have CL := Lib.hid (H7.out.1.alone 5 w5 z)
          rw [alone_no H7.out.2.2.1 hzo] at CL
          unfold ownV at CL
          go_wp2_with (go_at_call 17; refine CL.out.mono ?_)
          rintro e V4 ⟨rfl, k4⟩
          have H8 : Hid (Al13 W1 b o _ _ (j + 1 + 1) V4) := Lib.hid ⟨H7.out.1.old k4, H7.out.2⟩
          have CN := Lib.hid (H8.out.1.count 5 w5)
          rw [H8.out.2.2.1] at CN
          simp only [List.length_singleton] at CN
          clear CL k4 H7 o0 o1 o2 z0 z1 z2 r1
          go_wp2_with (go_at_call 16; refine CN.out.mono ?_; rintro e _ ⟨rfl, rfl⟩)
          go_roundw
          case rel => exact ⟨j + 1, _, _, _, rfl, by omega, by go_num, H8⟩
          case measure => simp [intOf]; omega
        · by_cases k2 : kd = 2
          · subst k2
            have C := Lib.hid (H5.out.1.1.add c HWF.out.2 q (H5.out.1.2.1.le (by omega) c))
            unfold ownV at C
            go_wp2_with (go_at_call 8; refine C.out.mono ?_)
            rintro e V2 hD
            obtain ⟨rfl, h3, -⟩ := hD
            have H6 : Hid (Al13 W1 b o (addF f c q) h (j + 1 + 1) V2) := Lib.hid ⟨h3, H5.out.1.2.1.add c q, by rw [addF_other _ _ (Ne.symm hc5)]; exact H5.out.1.2.2.1, H5.out.1.2.2.2⟩
            clear h3 C H5 p0 p1 p2 p3 p4
            clear bk bc HWF WA
            obtain ⟨o0, o1, o2⟩ := (HBO.out.old H6.out.1.kept).cells
            have CL := Lib.hid (H6.out.1.alone 5 w5 o)
            rw [alone_yes H6.out.2.2.1 H6.out.2.2.2] at CL
            unfold ownV at CL
            go_wp2_with (go_at_call 17; refine CL.out.mono ?_)
            rintro e V3 ⟨rfl, k3⟩
            have H7 : Hid (Al13 W1 b o _ _ (j + 1 + 1) V3) := Lib.hid ⟨H6.out.1.old k3, H6.out.2⟩
            clear CL k3 H6 o0 o1 o2
            obtain ⟨o0, o1, o2⟩ := (HBO.out.old H7.out.1.kept).cells
            obtain ⟨z0, z1, z2⟩ := (HBZ.out.old H7.out.1.kept).cells
            have r1 := q1.out
            rw [decide_eq_false hzo] at r1
            simp only [Bool.not_false] at r1
            have CL := Lib.hid (H7.out.1.alone 5 w5 z)
            rw [alone_no H7.out.2.2.1 hzo] at CL
            unfold ownV at CL
            go_wp2_with (go_at_call 17; refine CL.out.mono ?_)
            rintro e V4 ⟨rfl, k4⟩
            have H8 : Hid (Al13 W1 b o _ _ (j + 1 + 1) V4) := Lib.hid ⟨H7.out.1.old k4, H7.out.2⟩
            have CN := Lib.hid (H8.out.1.count 5 w5)
            rw [H8.out.2.2.1] at CN
            simp only [List.length_singleton] at CN
            clear CL k4 H7 o0 o1 o2 z0 z1 z2 r1
            go_wp2_with (go_at_call 16; refine CN.out.mono ?_; rintro e _ ⟨rfl, rfl⟩)
            go_roundw
            case rel => exact ⟨j + 1, _, _, _, rfl, by omega, by go_num, H8⟩
            case measure => simp [intOf]; omega
          · by_cases k3 : kd = 3
            · subst k3
              have C := Lib.hid (H5.out.1.1.remove c HWF.out.2 q (H5.out.1.2.1.le (by omega) c))
              unfold ownV at C
              go_wp2_with (go_at_call 11; refine C.out.mono ?_)
              rintro e V2 hD
              obtain ⟨rfl, h3, -⟩ := hD
              have H6 : Hid (Al13 W1 b o (remF f c q) h (j + 1 + 1) V2) := Lib.hid ⟨h3, (H5.out.1.2.1.rem c q).mono (by omega), by rw [remF_other _ _ (Ne.symm hc5)]; exact H5.out.1.2.2.1, H5.out.1.2.2.2⟩
              clear h3 C H5 p0 p1 p2 p3 p4
              clear bk bc HWF WA
              obtain ⟨o0, o1, o2⟩ := (HBO.out.old H6.out.1.kept).cells
              have CL := Lib.hid (H6.out.1.alone 5 w5 o)
              rw [alone_yes H6.out.2.2.1 H6.out.2.2.2] at CL
              unfold ownV at CL
              go_wp2_with (go_at_call 17; refine CL.out.mono ?_)
              rintro e V3 ⟨rfl, k3⟩
              have H7 : Hid (Al13 W1 b o _ _ (j + 1 + 1) V3) := Lib.hid ⟨H6.out.1.old k3, H6.out.2⟩
              clear CL k3 H6 o0 o1 o2
              obtain ⟨o0, o1, o2⟩ := (HBO.out.old H7.out.1.kept).cells
              obtain ⟨z0, z1, z2⟩ := (HBZ.out.old H7.out.1.kept).cells
              have r1 := q1.out
              rw [decide_eq_false hzo] at r1
              simp only [Bool.not_false] at r1
              have CL := Lib.hid (H7.out.1.alone 5 w5 z)
              rw [alone_no H7.out.2.2.1 hzo] at CL
              unfold ownV at CL
              go_wp2_with (go_at_call 17; refine CL.out.mono ?_)
              rintro e V4 ⟨rfl, k4⟩
              have H8 : Hid (Al13 W1 b o _ _ (j + 1 + 1) V4) := Lib.hid ⟨H7.out.1.old k4, H7.out.2⟩
              have CN := Lib.hid (H8.out.1.count 5 w5)
              rw [H8.out.2.2.1] at CN
              simp only [List.length_singleton] at CN
              clear CL k4 H7 o0 o1 o2 z0 z1 z2 r1
              go_wp2_with (go_at_call 16; refine CN.out.mono ?_; rintro e _ ⟨rfl, rfl⟩)
              go_roundw
              case rel => exact ⟨j + 1, _, _, _, rfl, by omega, by go_num, H8⟩
              case measure => simp [intOf]; omega
            · have b1 : (kd == 1) = false := by rw [beq_eq_false_iff_ne]; exact k1
              have b2 : (kd == 2) = false := by rw [beq_eq_false_iff_ne]; exact k2
              have b3 : (kd == 3) = false := by rw [beq_eq_false_iff_ne]; exact k3
              have C := Lib.hid H5.out.1.1.commit
              go_wp2_with (go_at_call 14; refine C.out.mono ?_)
              rintro e V2 hD
              obtain ⟨rfl, h3, -⟩ := hD
              have H6 : Hid (Al13 W1 b o f f (j + 1 + 1) V2) := Lib.hid ⟨h3, H5.out.1.2.1.mono (by omega), H5.out.1.2.2.1, .inr H5.out.1.2.2.1⟩
              clear h3 C H5 p0 p1 p2 p3 p4
              clear bk bc HWF WA
              obtain ⟨o0, o1, o2⟩ := (HBO.out.old H6.out.1.kept).cells
              have CL := Lib.hid (H6.out.1.alone 5 w5 o)
              rw [alone_yes H6.out.2.2.1 H6.out.2.2.2] at CL
              unfold ownV at CL
              go_wp2_with (go_at_call 17; refine CL.out.mono ?_)
              rintro e V3 ⟨rfl, k3⟩
              have H7 : Hid (Al13 W1 b o _ _ (j + 1 + 1) V3) := Lib.hid ⟨H6.out.1.old k3, H6.out.2⟩
              clear CL k3 H6 o0 o1 o2
              obtain ⟨o0, o1, o2⟩ := (HBO.out.old H7.out.1.kept).cells
              obtain ⟨z0, z1, z2⟩ := (HBZ.out.old H7.out.1.kept).cells
              have r1 := q1.out
              rw [decide_eq_false hzo] at r1
              simp only [Bool.not_false] at r1
              have CL := Lib.hid (H7.out.1.alone 5 w5 z)
              rw [alone_no H7.out.2.2.1 hzo] at CL
              unfold ownV at CL
              go_wp2_with (go_at_call 17; refine CL.out.mono ?_)
              rintro e V4 ⟨rfl, k4⟩
              have H8 : Hid (Al13 W1 b o _ _ (j + 1 + 1) V4) := Lib.hid ⟨H7.out.1.old k4, H7.out.2⟩
              have CN := Lib.hid (H8.out.1.count 5 w5)
              rw [H8.out.2.2.1] at CN
              simp only [List.length_singleton] at CN
              clear CL k4 H7 o0 o1 o2 z0 z1 z2 r1
              go_wp2_with (go_at_call 16; refine CN.out.mono ?_; rintro e _ ⟨rfl, rfl⟩)
              go_roundw
              case rel => exact ⟨j + 1, _, _, _, rfl, by omega, by go_num, H8⟩
              case measure => simp [intOf]; omega
    · have d1 : ¬ (j : Int) < (len : Int) := by omega
      obtain ⟨e1, e2, e3, e4, e5, e6, e7, e8, e9⟩ := al_end HJ.out.2.2.1 hzo
      have HE1 := Lib.hid (And.intro e1 (And.intro e2 (And.intro e3 (And.intro e4 e5))))
      have HE2 := Lib.hid (And.intro e6 (And.intro e7 (And.intro e8 e9)))
      clear e1 e2 e3 e4 e5 e6 e7 e8 e9 hlt
      obtain ⟨o0, o1, o2⟩ := (HBO.out.old HJ.out.1.kept).cells
      obtain ⟨z0, z1, z2⟩ := (HBZ.out.old HJ.out.1.kept).cells
      have r1 := q2.out
      rw [decide_eq_false hzo] at r1
      have CC := Lib.hid HJ.out.1.commit
      go_wp2_with (go_at_call 14; refine CC.out.mono ?_)
      rintro e Y1 hD
      obtain ⟨rfl, h1, -⟩ := hD
      have H1 := Lib.hid (And.intro h1 (And.intro HJ.out.2.2.1 (HJ.out.2.1 5)))
      clear h1 CC HJ o0 o1 o2 z0 z1 z2 r1
      obtain ⟨c0, c1, c2⟩ := (HBO.out.old H1.out.1.kept).cells
      obtain ⟨d2, d3, d4⟩ := (HBZ.out.old H1.out.1.kept).cells
      have CA := Lib.hid (H1.out.1.add 5 w5 z (by have := H1.out.2.2; omega))
      rw [HE1.out.1, HE1.out.2.1] at CA
      unfold ownV at CA
      go_wp2_with (go_at_call 8; refine CA.out.mono ?_)
      rintro e Y2 hD
      obtain ⟨rfl, h2, -⟩ := hD
      have H2 := Lib.hid h2
      clear h2 CA c0 c1 c2 d2 d3 d4
      obtain ⟨c0, c1, c2⟩ := (HBO.out.old H2.out.kept).cells
      obtain ⟨d2, d3, d4⟩ := (HBZ.out.old H2.out.kept).cells
      have CL := Lib.hid (H2.out.alone 5 w5 o)
      rw [alone_two HE1.out.2.2.1] at CL
      unfold ownV at CL
      go_wp2_with (go_at_call 17; refine CL.out.mono ?_)
      rintro e Y3 ⟨rfl, k3⟩
      have H3 := Lib.hid (H2.out.old k3)
      clear k3 CL c0 c1 c2 d2 d3 d4 H2
      obtain ⟨c0, c1, c2⟩ := (HBO.out.old H3.out.kept).cells
      obtain ⟨d2, d3, d4⟩ := (HBZ.out.old H3.out.kept).cells
      have CL := Lib.hid (H3.out.alone 5 w5 z)
      rw [alone_two HE1.out.2.2.1] at CL
      unfold ownV at CL
      go_wp2_with (go_at_call 17; refine CL.out.mono ?_)
      rintro e Y4 ⟨rfl, k4⟩
      have H4 := Lib.hid (H3.out.old k4)
      clear k4 CL c0 c1 c2 d2 d3 d4 H3
      obtain ⟨c0, c1, c2⟩ := (HBO.out.old H4.out.kept).cells
      obtain ⟨d2, d3, d4⟩ := (HBZ.out.old H4.out.kept).cells
      have CR := Lib.hid (H4.out.remove 5 w5 z (by rw [HE1.out.2.2.1]; omega))
      rw [HE1.out.2.2.2.1, HE1.out.2.2.2.2] at CR
      unfold ownV at CR
      dsimp only at CR
      go_wp2_with (go_at_call 11; refine CR.out.mono ?_)
      rintro e Y5 hD
      obtain ⟨rfl, h5, -⟩ := hD
      have H5 := Lib.hid h5
      clear h5 CR c0 c1 c2 d2 d3 d4 H4
      obtain ⟨c0, c1, c2⟩ := (HBO.out.old H5.out.kept).cells
      obtain ⟨d2, d3, d4⟩ := (HBZ.out.old H5.out.kept).cells
      have CL := Lib.hid (H5.out.alone 5 w5 o)
      rw [alone_yes (setF_same _ _ _) (.inr H1.out.2.1)] at CL
      unfold ownV at CL
      go_wp2_with (go_at_call 17; refine CL.out.mono ?_)
      rintro e Y6 ⟨rfl, k6⟩
      have H6 := Lib.hid (H5.out.old k6)
      clear k6 CL c0 c1 c2 d2 d3 d4 H5
      obtain ⟨c0, c1, c2⟩ := (HBO.out.old H6.out.kept).cells
      obtain ⟨d2, d3, d4⟩ := (HBZ.out.old H6.out.kept).cells
      have CR := Lib.hid (H6.out.remove 5 w5 o (by rw [setF_same]; simp))
      rw [HE2.out.1, HE2.out.2.1] at CR
      unfold ownV at CR
      dsimp only at CR
      go_wp2_with (go_at_call 11; refine CR.out.mono ?_)
      rintro e Y7 hD
      obtain ⟨rfl, h7, -⟩ := hD
      have H7 := Lib.hid h7
      clear h7 CR c0 c1 c2 d2 d3 d4 H6
      obtain ⟨c0, c1, c2⟩ := (HBO.out.old H7.out.kept).cells
      obtain ⟨d2, d3, d4⟩ := (HBZ.out.old H7.out.kept).cells
      have CA := Lib.hid (H7.out.add 5 w5 z (by rw [setF_same]; simp))
      rw [HE2.out.2.2.1, HE2.out.2.2.2] at CA
      unfold ownV at CA
      go_wp2_with (go_at_call 8; refine CA.out.mono ?_)
      rintro e Y8 hD
      obtain ⟨rfl, h8, -⟩ := hD
      have H8 := Lib.hid h8
      clear h8 CA c0 c1 c2 d2 d3 d4 H7
      obtain ⟨c0, c1, c2⟩ := (HBO.out.old H8.out.kept).cells
      obtain ⟨d2, d3, d4⟩ := (HBZ.out.old H8.out.kept).cells
      have CL := Lib.hid (H8.out.alone 5 w5 z)
      rw [alone_other H1.out.2.1 hzo] at CL
      unfold ownV at CL
      go_wp2_with (go_at_call 17; refine CL.out.mono ?_)
      rintro e Y9 ⟨rfl, k9⟩
      have H9 := Lib.hid (H8.out.old k9)
      clear k9 CL c0 c1 c2 d2 d3 d4 H8
      have CC := Lib.hid H9.out.commit
      go_wp2_with (go_at_call 14; refine CC.out.mono ?_)
      rintro e X1 hD
      obtain ⟨rfl, h1, -⟩ := hD
      have G1 := Lib.hid h1
      clear h1 CC H9 H1
      obtain ⟨c0, c1, c2⟩ := (HBO.out.old G1.out.kept).cells
      obtain ⟨d2, d3, d4⟩ := (HBZ.out.old G1.out.kept).cells
      have N1 := Lib.hid (owNilCommit X1)
      have N2 := Lib.hid (owNilRemove 1 o X1)
      unfold ownV at N2
      go_wp2_with (first | (go_at_call 14; refine N1.out.mono ?_; rintro e _ ⟨rfl, rfl⟩) | (go_at_call 11; refine N2.out.mono ?_))
      rintro e X2 ⟨rfl, k2⟩
      have G2 := Lib.hid (G1.out.old k2)
      clear k2 N1 N2 G1 c0 c1 c2 d2 d3 d4
      obtain ⟨c0, c1, c2⟩ := (HBO.out.old G2.out.kept).cells
      obtain ⟨d2, d3, d4⟩ := (HBZ.out.old G2.out.kept).cells
      have CL := Lib.hid (G2.out.alone 5 w5 z)
      have hal : aloneB (setF f 5 [z]) (setF f 5 [z]) 5 z = true := alone_yes (setF_same _ _ _) (.inr (setF_same _ _ _))
      rw [hal] at CL
      unfold ownV at CL
      go_wp2_with (go_at_call 17; refine CL.out.mono ?_)
      rintro e X3 ⟨rfl, k3⟩
      have G3 := Lib.hid (G2.out.old k3)
      clear k3 CL G2 c0 c1 c2 d2 d3 d4 hal
      obtain ⟨c0, c1, c2⟩ := (HBO.out.old G3.out.kept).cells
      obtain ⟨d2, d3, d4⟩ := (HBZ.out.old G3.out.kept).cells
      have N1 := Lib.hid (owNilAdd 1 o X3)
      unfold ownV at N1
      go_wp2_with (go_at_call 8; refine N1.out.mono ?_)
      rintro e X4 ⟨rfl, k4⟩
      have G4 := Lib.hid (G3.out.old k4)
      clear k4 N1 G3 c0 c1 c2 d2 d3 d4
      obtain ⟨c0, c1, c2⟩ := (HBO.out.old G4.out.kept).cells
      obtain ⟨d2, d3, d4⟩ := (HBZ.out.old G4.out.kept).cells
      have N1 := Lib.hid (owNilCount 1 X4)
      have N2 := Lib.hid (owNilFree X4)
      have N3 := Lib.hid (owNilList 1 X4)
      have N4 := Lib.hid (owNilChunks X4)
      have N5 := Lib.hid (owNilAlone 1 o X4)
      unfold ownV at N5
      go_wp2_with (first | (go_at_call 16; refine N1.out.mono ?_; rintro e _ ⟨rfl, rfl⟩) | (go_at_call 20; refine N2.out.mono ?_; rintro e _ ⟨rfl, rfl⟩) | (go_at_call 15; refine N3.out.mono ?_; rintro e _ ⟨rfl, rfl⟩) | (go_at_call 22; refine N4.out.mono ?_; rintro e _ ⟨rfl, rfl⟩) | (go_at_call 17; refine N5.out.mono ?_))
      rintro e X5 ⟨rfl, k5⟩
      have HKE := Lib.hid (HK1.out.on (G4.out.old k5).kept)
      have N1' := Lib.hid (owNilWas 1 X5)
      clear k5 N1 N2 N3 N4 N5 G4 c0 c1 c2 d2 d3 d4
      go_wp2_with (go_at_call 19; refine N1'.out.mono ?_; rintro e _ ⟨rfl, rfl⟩)
      go_ret
      exact ⟨rfl, HKE.out⟩

end Go.Proofs.Ytononiedecpllaa
