/- MoveBack of layer 17: the walk: it returns true for every input and writes nothing that was there. -/
import Derived.Test.YtaaohockmpmaoaaAw17
set_option linter.unusedVariables false
namespace Go.Proofs.Ytaaohockmpmaoaa
open Go.RowKit

theorem canM_swap {ch : Int} {a b : Sp} : CanM ch a b ↔ CanM ch b a := by
  unfold CanM
  exact ⟨fun ⟨h1, h2, h3, h4, h5⟩ => ⟨h1, h2, h4, h3, Ne.symm h5⟩, fun ⟨h1, h2, h3, h4, h5⟩ => ⟨h1, h2, h4, h3, Ne.symm h5⟩⟩
theorem two_spots (w : World) (a b : Sp) : ∀ V, KeptIn (· < ((w.alloc (.cells #[.int .i64 a.ti, .int .i64 a.sl] 23)).alloc (.cells #[.int .i64 b.ti, .int .i64 b.sl] 23)).heap.size) ((w.alloc (.cells #[.int .i64 a.ti, .int .i64 a.sl] 23)).alloc (.cells #[.int .i64 b.ti, .int .i64 b.sl] 23)) V →
    BoxS w.heap.size a V ∧ BoxS (w.heap.size + 1) b V ∧ KeptIn (· < w.heap.size) w V := by
  intro V hk
  have h1 := BoxS.new w a
  obtain ⟨W1, hW1⟩ : ∃ W1, w.alloc (.cells #[.int .i64 a.ti, .int .i64 a.sl] 23) = W1 := ⟨_, rfl⟩
  have hk1 : KeptIn (· < w.heap.size) w W1 := by rw [← hW1]; exact keptNew _ _
  have hs1 : W1.heap.size = w.heap.size + 1 := by rw [← hW1]; simp
  rw [hW1] at h1 hk
  have h2 := BoxS.new W1 b
  rw [hs1] at h2
  have k2 := (keptNew W1 (.cells #[.int .i64 b.ti, .int .i64 b.sl] 23)).onM hk
  exact ⟨h1.old k2, h2.old hk, hk1.onM k2⟩


set_option maxHeartbeats 4000000 in
set_option maxRecDepth 100000 in
theorem moveBackW (ch : Int) (ft fs tt ts : Int) (w : World) (_ : (Lit.int .i64 ch).wf = true) (_ : (Lit.int .i64 ft).wf = true) (_ : (Lit.int .i64 tt).wf = true) :
    Calls Try.prog 5 #[.int .i64 ch, spV ⟨ft, fs⟩, spV ⟨tt, ts⟩] w fun e w' => e = .returned (.bool true) ∧ KeptIn (· < w.heap.size) w w' := by
  have HX := Lib.hid fun V => mvNew ch ⟨ft, fs⟩ ⟨tt, ts⟩ V
  have HZ := Lib.hid fun V => mvNew ch ⟨tt, ts⟩ ⟨ft, fs⟩ V
  have HS := Lib.hid (two_spots w ⟨ft, fs⟩ ⟨tt, ts⟩)
  unfold NewS newM newE at HX HZ
  unfold spV mvV at HX HZ
  unfold spV
  simp only at HX HZ HS ⊢
  by_cases hc : CanM ch ⟨ft, fs⟩ ⟨tt, ts⟩
  · rw [if_pos hc, if_pos hc] at HX
    rw [if_pos (canM_swap.1 hc), if_pos (canM_swap.1 hc)] at HZ
    have z1 : (ft != tt) = true := by rw [bne_iff_ne]; exact hc.2.2.2.2
    have z2 : (ft == tt) = false := by rw [beq_eq_false_iff_ne]; exact hc.2.2.2.2
    have HE := Lib.hid fun V => eqS17 ⟨ft, fs⟩ ⟨ft, fs⟩ V
    have HF := Lib.hid fun V => eqS17 ⟨tt, ts⟩ ⟨tt, ts⟩ V
    unfold spV at HE HF
    simp only [decide_true] at HE HF HX HZ
    have q1 := HE.out
    have q2 := HF.out
    clear hc
    go_enter Try.func5, Try.ntmps5
    go_wp2_with fail
    refine (awake17 _).mono ?_
    rintro e V1 ⟨rfl, k1⟩
    obtain ⟨s1, s2, k⟩ := HS.out V1 k1
    have a0 := s1.c0
    have a1 := s1.c1
    have b0 := s2.c0
    have b1 := s2.c1
    have HB := Lib.hid (And.intro s1 (And.intro s2 k))
    clear s1 s2 k k1 HS
    simp only at a0 a1 b0 b1
    go_wp2_with fail
    refine (HX.out _).mono ?_
    rintro e V2 ⟨rfl, k2⟩
    have kk2 := k2.onM (keptNew V2 (.cells #[.int .i64 ch, .int .i64 ft, .int .i64 fs, .int .i64 tt, .int .i64 ts, .int .i64 1] 25))
    have m2 := BoxM.new V2 ⟨ch, ⟨ft, fs⟩, ⟨tt, ts⟩, 1⟩
    simp only at m2
    obtain ⟨W, hW⟩ : ∃ W, V2.alloc (.cells #[.int .i64 ch, .int .i64 ft, .int .i64 fs, .int .i64 tt, .int .i64 ts, .int .i64 1] 25) = W := ⟨_, rfl⟩
    obtain ⟨y, hy⟩ : ∃ y, V2.heap.size = y := ⟨_, rfl⟩
    rw [hW] at m2 kk2
    rw [hy] at m2
    have HB2 := Lib.hid (And.intro (HB.out.1.old kk2) (And.intro (HB.out.2.1.old kk2) (And.intro (HB.out.2.2.onM kk2) m2)))
    have HW := Lib.hid hW
    have HY := Lib.hid hy
    clear m2 kk2 k2 hW hy HX HB a0 a1 b0 b1
    have a0 := HB2.out.1.c0
    have a1 := HB2.out.1.c1
    have b0 := HB2.out.2.1.c0
    have b1 := HB2.out.2.1.c1
    simp only at a0 a1 b0 b1
    go_upto_region 4 with fail
    rw [HW.out]
    simp only [HY.out]
    go_wp2_with fail
    refine (HZ.out _).mono ?_
    rintro e V3 ⟨rfl, k3⟩
    have kk3 := k3.onM (keptNew V3 (.cells #[.int .i64 ch, .int .i64 tt, .int .i64 ts, .int .i64 ft, .int .i64 fs, .int .i64 1] 25))
    have m3 := BoxM.new V3 ⟨ch, ⟨tt, ts⟩, ⟨ft, fs⟩, 1⟩
    simp only at m3
    obtain ⟨U, hU⟩ : ∃ U, V3.alloc (.cells #[.int .i64 ch, .int .i64 tt, .int .i64 ts, .int .i64 ft, .int .i64 fs, .int .i64 1] 25) = U := ⟨_, rfl⟩
    obtain ⟨z, hz⟩ : ∃ z, V3.heap.size = z := ⟨_, rfl⟩
    rw [hU] at m3 kk3
    rw [hz] at m3
    have s1 := HB2.out.1.old kk3
    have s2 := HB2.out.2.1.old kk3
    have s3 := HB2.out.2.2.2.old kk3
    have HK := Lib.hid (HB2.out.2.2.1.onM kk3)
    have HU := Lib.hid hU
    have HV := Lib.hid hz
    clear kk3 k3 hU hz HZ HB2 HW HY a0 a1 b0 b1
    have a0 := s1.c0
    have b0 := s2.c0
    have x0 := s3.at.c0
    have x1 := s3.at.c1
    have x2 := s3.at.c2
    have x3 := s3.at.c3
    have x4 := s3.at.c4
    have x5 := s3.at.c5
    have y0 := m3.at.c0
    have y1 := m3.at.c1
    have y2 := m3.at.c2
    have y3 := m3.at.c3
    have y4 := m3.at.c4
    have y5 := m3.at.c5
    simp only at a0 b0 x0 x1 x2 x3 x4 x5 y0 y1 y2 y3 y4 y5
    clear s1 s2 s3 m3
    go_upto_region 5 with fail
    rw [HU.out]
    simp only [HV.out]
    go_wp2_with fail
    go_ret
    exact ⟨rfl, HK.out⟩
  · rw [if_neg hc, if_neg hc] at HX
    rw [if_neg (fun h => hc (canM_swap.1 h)), if_neg (fun h => hc (canM_swap.1 h))] at HZ
    have HE := Lib.hid fun V => eqM17 mv0 mv0 V
    unfold mvV mv0 at HE
    unfold mv0 at HX HZ
    simp only [decide_true] at HE HX HZ
    have q1 := HE.out
    clear hc
    go_enter Try.func5, Try.ntmps5
    go_wp2_with fail
    refine (awake17 _).mono ?_
    rintro e V1 ⟨rfl, k1⟩
    obtain ⟨s1, s2, k⟩ := HS.out V1 k1
    have a0 := s1.c0
    have a1 := s1.c1
    have b0 := s2.c0
    have b1 := s2.c1
    have HB := Lib.hid (And.intro s1 (And.intro s2 k))
    clear s1 s2 k k1 HS
    simp only at a0 a1 b0 b1
    go_wp2_with fail
    refine (HX.out _).mono ?_
    rintro e V2 ⟨rfl, k2⟩
    have kk2 := k2.onM (keptNew V2 (.cells #[.int .i64 0, .int .i64 0, .int .i64 0, .int .i64 0, .int .i64 0, .int .i64 0] 25))
    have m2 := BoxM.new V2 ⟨0, ⟨0, 0⟩, ⟨0, 0⟩, 0⟩
    simp only at m2
    obtain ⟨W, hW⟩ : ∃ W, V2.alloc (.cells #[.int .i64 0, .int .i64 0, .int .i64 0, .int .i64 0, .int .i64 0, .int .i64 0] 25) = W := ⟨_, rfl⟩
    obtain ⟨y, hy⟩ : ∃ y, V2.heap.size = y := ⟨_, rfl⟩
    rw [hW] at m2 kk2
    rw [hy] at m2
    have HB2 := Lib.hid (And.intro (HB.out.1.old kk2) (And.intro (HB.out.2.1.old kk2) (And.intro (HB.out.2.2.onM kk2) m2)))
    have HW := Lib.hid hW
    have HY := Lib.hid hy
    clear m2 kk2 k2 hW hy HX HB a0 a1 b0 b1
    have a0 := HB2.out.1.c0
    have a1 := HB2.out.1.c1
    have b0 := HB2.out.2.1.c0
    have b1 := HB2.out.2.1.c1
    simp only at a0 a1 b0 b1
    go_upto_region 4 with fail
    rw [HW.out]
    simp only [HY.out]
    go_wp2_with fail
    refine (HZ.out _).mono ?_
    rintro e V3 ⟨rfl, k3⟩
    have kk3 := k3.onM (keptNew V3 (.cells #[.int .i64 0, .int .i64 0, .int .i64 0, .int .i64 0, .int .i64 0, .int .i64 0] 25))
    have m3 := BoxM.new V3 ⟨0, ⟨0, 0⟩, ⟨0, 0⟩, 0⟩
    simp only at m3
    obtain ⟨U, hU⟩ : ∃ U, V3.alloc (.cells #[.int .i64 0, .int .i64 0, .int .i64 0, .int .i64 0, .int .i64 0, .int .i64 0] 25) = U := ⟨_, rfl⟩
    obtain ⟨z, hz⟩ : ∃ z, V3.heap.size = z := ⟨_, rfl⟩
    rw [hU] at m3 kk3
    rw [hz] at m3
    have s1 := HB2.out.1.old kk3
    have s2 := HB2.out.2.1.old kk3
    have s3 := HB2.out.2.2.2.old kk3
    have HK := Lib.hid (HB2.out.2.2.1.onM kk3)
    have HU := Lib.hid hU
    have HV := Lib.hid hz
    clear kk3 k3 hU hz HZ HB2 HW HY a0 a1 b0 b1
    have a0 := s1.c0
    have b0 := s2.c0
    have x0 := s3.at.c0
    have x1 := s3.at.c1
    have x2 := s3.at.c2
    have x3 := s3.at.c3
    have x4 := s3.at.c4
    have x5 := s3.at.c5
    have y0 := m3.at.c0
    have y1 := m3.at.c1
    have y2 := m3.at.c2
    have y3 := m3.at.c3
    have y4 := m3.at.c4
    have y5 := m3.at.c5
    simp only at a0 b0 x0 x1 x2 x3 x4 x5 y0 y1 y2 y3 y4 y5
    clear s1 s2 s3 m3
    go_upto_region 5 with fail
    rw [HU.out]
    simp only [HV.out]
    go_wp2_with fail
    go_ret
    exact ⟨rfl, HK.out⟩

end Go.Proofs.Ytaaohockmpmaoaa
