/- Package move's New. -/
import Derived.Test.YtaaohockmpmaoaaMw17
set_option linter.unusedVariables false
namespace Go.Proofs.Ytaaohockmpmaoaa
open Go.RowKit

def NewS (w : World) (x : Mv) (k : Int) (e : Ending) (w' : World) : Prop := e = .returned (.tuple #[mvV x, .int .i64 k]) ∧ KeptIn (· < w.heap.size) w w'

/-- The three boxes of New. -/
theorem mn_boxes (w : World) (a b : Sp) : ∀ V, KeptIn (· < (((w.alloc (.cells #[.int .i64 a.ti, .int .i64 a.sl] 23)).alloc (.cells #[.int .i64 b.ti, .int .i64 b.sl] 23)).alloc (.cells #[.int .i64 0, .int .i64 0, .int .i64 0, .int .i64 0, .int .i64 0, .int .i64 0] 25)).heap.size) (((w.alloc (.cells #[.int .i64 a.ti, .int .i64 a.sl] 23)).alloc (.cells #[.int .i64 b.ti, .int .i64 b.sl] 23)).alloc (.cells #[.int .i64 0, .int .i64 0, .int .i64 0, .int .i64 0, .int .i64 0, .int .i64 0] 25)) V →
    BoxS w.heap.size a V ∧ BoxS (w.heap.size + 1) b V ∧ BoxM (w.heap.size + 1 + 1) mv0 V ∧ KeptIn (· < w.heap.size) w V := by
  intro V hk
  have h1 := BoxS.new w a
  obtain ⟨W1, hW1⟩ : ∃ W1, w.alloc (.cells #[.int .i64 a.ti, .int .i64 a.sl] 23) = W1 := ⟨_, rfl⟩
  have hk1 : KeptIn (· < w.heap.size) w W1 := by rw [← hW1]; exact keptNew _ _
  have hs1 : W1.heap.size = w.heap.size + 1 := by rw [← hW1]; simp
  rw [hW1] at h1 hk
  have h2 := BoxS.new W1 b
  obtain ⟨W2, hW2⟩ : ∃ W2, W1.alloc (.cells #[.int .i64 b.ti, .int .i64 b.sl] 23) = W2 := ⟨_, rfl⟩
  have hk2 : KeptIn (· < W1.heap.size) W1 W2 := by rw [← hW2]; exact keptNew _ _
  have hs2 : W2.heap.size = w.heap.size + 1 + 1 := by rw [← hW2, World.size_alloc, hs1]
  rw [hW2] at h2 hk
  have h3 : BoxM W2.heap.size mv0 (W2.alloc (.cells #[.int .i64 0, .int .i64 0, .int .i64 0, .int .i64 0, .int .i64 0, .int .i64 0] 25)) := BoxM.new W2 mv0
  have hk3 : KeptIn (· < W2.heap.size) W2 (W2.alloc (.cells #[.int .i64 0, .int .i64 0, .int .i64 0, .int .i64 0, .int .i64 0, .int .i64 0] 25)) := keptNew _ _
  rw [hs2] at h3
  rw [hs1] at h2
  have k3 := hk3.onM hk
  have k2 := hk2.onM k3
  exact ⟨h1.old k2, h2.old k3, h3.old hk, hk1.onM k2⟩

theorem mn_fin {w V : World} {x0 : Mv} (h : BoxM (w.heap.size + 1 + 1) x0 V) (hk : KeptIn (· < w.heap.size) w V) (x : Mv) :
    BoxM (w.heap.size + 1 + 1) x (st17 V (w.heap.size + 1 + 1) x) ∧ KeptIn (· < w.heap.size) w (st17 V (w.heap.size + 1 + 1) x) := ⟨h.store x, hk.st17 (show ¬ w.heap.size + 1 + 1 < w.heap.size by omega) x⟩

theorem mn_zero {w V : World} {x0 : Mv} (h : BoxM (w.heap.size + 1 + 1) x0 V) (hk : KeptIn (· < w.heap.size) w V) :
    BoxM (w.heap.size + 1 + 1) ⟨0, ⟨0, 0⟩, ⟨0, 0⟩, 0⟩ ((((((V.setCell ⟨w.heap.size + 1 + 1, 0, none⟩ (.int .i64 0)).setCell ⟨w.heap.size + 1 + 1, 1, none⟩ (.int .i64 0)).setCell ⟨w.heap.size + 1 + 1, 2, none⟩ (.int .i64 0)).setCell ⟨w.heap.size + 1 + 1, 3, none⟩ (.int .i64 0)).setCell ⟨w.heap.size + 1 + 1, 4, none⟩ (.int .i64 0)).setCell ⟨w.heap.size + 1 + 1, 5, none⟩ (.int .i64 0)) ∧
    KeptIn (· < w.heap.size) w ((((((V.setCell ⟨w.heap.size + 1 + 1, 0, none⟩ (.int .i64 0)).setCell ⟨w.heap.size + 1 + 1, 1, none⟩ (.int .i64 0)).setCell ⟨w.heap.size + 1 + 1, 2, none⟩ (.int .i64 0)).setCell ⟨w.heap.size + 1 + 1, 3, none⟩ (.int .i64 0)).setCell ⟨w.heap.size + 1 + 1, 4, none⟩ (.int .i64 0)).setCell ⟨w.heap.size + 1 + 1, 5, none⟩ (.int .i64 0)) := by
  have hf := mn_fin h hk ⟨0, ⟨0, 0⟩, ⟨0, 0⟩, 0⟩
  unfold st17 at hf
  exact hf


set_option maxHeartbeats 2000000 in
theorem mvNew (ch : Int) (a b : Sp) (w : World) : Calls Try.prog 7 #[.int .i64 ch, spV a, spV b] w (NewS w (newM ch a b) (newE ch a b)) := by
  have HS := Lib.hid (mn_boxes w a b)
  have HA := Lib.hid fun V => mvCan a V
  have HB := Lib.hid fun V => mvCan b V
  unfold BoS at HA HB
  unfold NewS newM newE
  by_cases h : CanM ch a b
  · rw [if_pos h, if_pos h]
    obtain ⟨h1, h2, h3, h4, h5⟩ := h
    rw [decide_eq_true h3] at HA
    rw [decide_eq_true h4] at HB
    obtain ⟨ft, fs⟩ := a
    obtain ⟨tt, ts⟩ := b
    unfold spV at HA HB ⊢
    simp only at HS HA HB h5 ⊢
    clear h3 h4
    have z0 : (ft == tt) = false := by rw [beq_eq_false_iff_ne]; exact h5
    go_enter Try.func7, Try.ntmps7
    go_wp2_with fail
    refine (HA.out _).mono ?_
    rintro e V ⟨rfl, hk⟩
    obtain ⟨b1, b2, b3, b4⟩ := HS.out V hk
    have HO := Lib.hid (And.intro b1 (And.intro b2 (And.intro b3 b4)))
    have c0 := b1.c0
    have c1 := b1.c1
    have e0 := b2.c0
    have e1 := b2.c1
    simp only at c0 c1 e0 e1
    have d0 := b3.at.c0
    have d1 := b3.at.c1
    have d2 := b3.at.c2
    have d3 := b3.at.c3
    have d4 := b3.at.c4
    have d5 := b3.at.c5
    have f0 := b3.fz 0
    have f1 := b3.fz 1
    have f2 := b3.fz 2
    have f3 := b3.fz 3
    have f4 := b3.fz 4
    have f5 := b3.fz 5
    unfold mv0 at d0 d1 d2 d3 d4 d5
    simp only at d0 d1 d2 d3 d4 d5
    have HBB := Lib.hid (And.intro b3 b4)
    clear b1 b2 b3 b4 hk HS HA
    go_wp2_with fail
    refine (HB.out _).mono ?_
    rintro e V2 ⟨rfl, hk⟩
    obtain ⟨b1, b2, b3, b4⟩ := HO.out
    replace b1 := b1.old hk
    replace b2 := b2.old hk
    replace b3 := b3.old hk
    replace b4 := b4.onM hk
    clear c0 c1 e0 e1 d0 d1 d2 d3 d4 d5 f0 f1 f2 f3 f4 f5 HBB
    have c0 := b1.c0
    have c1 := b1.c1
    have e0 := b2.c0
    have e1 := b2.c1
    simp only at c0 c1 e0 e1
    have d0 := b3.at.c0
    have d1 := b3.at.c1
    have d2 := b3.at.c2
    have d3 := b3.at.c3
    have d4 := b3.at.c4
    have d5 := b3.at.c5
    have f0 := b3.fz 0
    have f1 := b3.fz 1
    have f2 := b3.fz 2
    have f3 := b3.fz 3
    have f4 := b3.fz 4
    have f5 := b3.fz 5
    unfold mv0 at d0 d1 d2 d3 d4 d5
    simp only at d0 d1 d2 d3 d4 d5
    have HBB := Lib.hid (And.intro b3 b4)
    clear b1 b2 b3 b4 hk HO HB
    go_wp2_with fail
    have hf := mn_fin HBB.out.1 HBB.out.2 ⟨ch, ⟨ft, fs⟩, ⟨tt, ts⟩, 1⟩
    exact bodyPost_ret (results_mv_tmp rfl _ _ (w.heap.size + 1 + 1) _ rfl hf.1) rfl ⟨rfl, hf.2⟩
  · rw [if_neg h, if_neg h]
    unfold mv0
    by_cases h1 : ch < 1
    · obtain ⟨ft, fs⟩ := a
      obtain ⟨tt, ts⟩ := b
      unfold spV at HA HB ⊢
      simp only at HS HA HB ⊢
      clear h
      obtain ⟨b1, b2, b3, b4⟩ := HS.out _ (KeptIn.refl _ _)
      have c0 := b1.c0
      have c1 := b1.c1
      have e0 := b2.c0
      have e1 := b2.c1
      simp only at c0 c1 e0 e1
      have d0 := b3.at.c0
      have d1 := b3.at.c1
      have d2 := b3.at.c2
      have d3 := b3.at.c3
      have d4 := b3.at.c4
      have d5 := b3.at.c5
      have f0 := b3.fz 0
      have f1 := b3.fz 1
      have f2 := b3.fz 2
      have f3 := b3.fz 3
      have f4 := b3.fz 4
      have f5 := b3.fz 5
      unfold mv0 at d0 d1 d2 d3 d4 d5
      simp only at d0 d1 d2 d3 d4 d5
      have HBB := Lib.hid (And.intro b3 b4)
      clear b1 b2 b3 b4 HS HA HB
      go_enter Try.func7, Try.ntmps7
      go_wp2_with fail
      exact bodyPost_ret (results_mv_tmp rfl _ _ (w.heap.size + 1 + 1) mv0 rfl HBB.out.1) rfl ⟨rfl, HBB.out.2⟩
    by_cases h2 : 1023 < ch
    · obtain ⟨ft, fs⟩ := a
      obtain ⟨tt, ts⟩ := b
      unfold spV at HA HB ⊢
      simp only at HS HA HB ⊢
      clear h
      obtain ⟨b1, b2, b3, b4⟩ := HS.out _ (KeptIn.refl _ _)
      have c0 := b1.c0
      have c1 := b1.c1
      have e0 := b2.c0
      have e1 := b2.c1
      simp only at c0 c1 e0 e1
      have d0 := b3.at.c0
      have d1 := b3.at.c1
      have d2 := b3.at.c2
      have d3 := b3.at.c3
      have d4 := b3.at.c4
      have d5 := b3.at.c5
      have f0 := b3.fz 0
      have f1 := b3.fz 1
      have f2 := b3.fz 2
      have f3 := b3.fz 3
      have f4 := b3.fz 4
      have f5 := b3.fz 5
      unfold mv0 at d0 d1 d2 d3 d4 d5
      simp only at d0 d1 d2 d3 d4 d5
      have HBB := Lib.hid (And.intro b3 b4)
      clear b1 b2 b3 b4 HS HA HB
      go_enter Try.func7, Try.ntmps7
      go_wp2_with fail
      exact bodyPost_ret (results_mv_tmp rfl _ _ (w.heap.size + 1 + 1) mv0 rfl HBB.out.1) rfl ⟨rfl, HBB.out.2⟩
    have g1 : 1 ≤ ch := by omega
    have g2 : ch ≤ 1023 := by omega
    by_cases h3 : CanS a
    · rw [decide_eq_true h3] at HA
      by_cases h4 : CanS b
      · rw [decide_eq_true h4] at HB
        have h5 : a.ti = b.ti := Classical.byContradiction fun hn => h ⟨g1, g2, h3, h4, hn⟩
        obtain ⟨ft, fs⟩ := a
        obtain ⟨tt, ts⟩ := b
        simp only at h5
        subst h5
        unfold spV at HA HB ⊢
        simp only at HS HA HB ⊢
        clear h h3 h4
        go_enter Try.func7, Try.ntmps7
        go_wp2_with fail
        refine (HA.out _).mono ?_
        rintro e V ⟨rfl, hk⟩
        obtain ⟨b1, b2, b3, b4⟩ := HS.out V hk
        have HO := Lib.hid (And.intro b1 (And.intro b2 (And.intro b3 b4)))
        have c0 := b1.c0
        have c1 := b1.c1
        have e0 := b2.c0
        have e1 := b2.c1
        simp only at c0 c1 e0 e1
        have d0 := b3.at.c0
        have d1 := b3.at.c1
        have d2 := b3.at.c2
        have d3 := b3.at.c3
        have d4 := b3.at.c4
        have d5 := b3.at.c5
        have f0 := b3.fz 0
        have f1 := b3.fz 1
        have f2 := b3.fz 2
        have f3 := b3.fz 3
        have f4 := b3.fz 4
        have f5 := b3.fz 5
        unfold mv0 at d0 d1 d2 d3 d4 d5
        simp only at d0 d1 d2 d3 d4 d5
        have HBB := Lib.hid (And.intro b3 b4)
        clear b1 b2 b3 b4 hk HS HA
        go_wp2_with fail
        refine (HB.out _).mono ?_
        rintro e V2 ⟨rfl, hk⟩
        obtain ⟨b1, b2, b3, b4⟩ := HO.out
        replace b1 := b1.old hk
        replace b2 := b2.old hk
        replace b3 := b3.old hk
        replace b4 := b4.onM hk
        clear c0 c1 e0 e1 d0 d1 d2 d3 d4 d5 f0 f1 f2 f3 f4 f5 HBB
        have c0 := b1.c0
        have c1 := b1.c1
        have e0 := b2.c0
        have e1 := b2.c1
        simp only at c0 c1 e0 e1
        have d0 := b3.at.c0
        have d1 := b3.at.c1
        have d2 := b3.at.c2
        have d3 := b3.at.c3
        have d4 := b3.at.c4
        have d5 := b3.at.c5
        have f0 := b3.fz 0
        have f1 := b3.fz 1
        have f2 := b3.fz 2
        have f3 := b3.fz 3
        have f4 := b3.fz 4
        have f5 := b3.fz 5
        unfold mv0 at d0 d1 d2 d3 d4 d5
        simp only at d0 d1 d2 d3 d4 d5
        have HBB := Lib.hid (And.intro b3 b4)
        clear b1 b2 b3 b4 hk HO HB
        go_wp2_with fail
        have hf := mn_zero HBB.out.1 HBB.out.2
        exact bodyPost_ret (results_mv_tmp rfl _ _ (w.heap.size + 1 + 1) _ rfl hf.1) rfl ⟨rfl, hf.2⟩
      · rw [decide_eq_false h4] at HB
        obtain ⟨ft, fs⟩ := a
        obtain ⟨tt, ts⟩ := b
        unfold spV at HA HB ⊢
        simp only at HS HA HB ⊢
        clear h h3 h4
        go_enter Try.func7, Try.ntmps7
        go_wp2_with fail
        refine (HA.out _).mono ?_
        rintro e V ⟨rfl, hk⟩
        obtain ⟨b1, b2, b3, b4⟩ := HS.out V hk
        have HO := Lib.hid (And.intro b1 (And.intro b2 (And.intro b3 b4)))
        have c0 := b1.c0
        have c1 := b1.c1
        have e0 := b2.c0
        have e1 := b2.c1
        simp only at c0 c1 e0 e1
        have d0 := b3.at.c0
        have d1 := b3.at.c1
        have d2 := b3.at.c2
        have d3 := b3.at.c3
        have d4 := b3.at.c4
        have d5 := b3.at.c5
        have f0 := b3.fz 0
        have f1 := b3.fz 1
        have f2 := b3.fz 2
        have f3 := b3.fz 3
        have f4 := b3.fz 4
        have f5 := b3.fz 5
        unfold mv0 at d0 d1 d2 d3 d4 d5
        simp only at d0 d1 d2 d3 d4 d5
        have HBB := Lib.hid (And.intro b3 b4)
        clear b1 b2 b3 b4 hk HS HA
        go_wp2_with fail
        refine (HB.out _).mono ?_
        rintro e V2 ⟨rfl, hk⟩
        obtain ⟨b1, b2, b3, b4⟩ := HO.out
        replace b1 := b1.old hk
        replace b2 := b2.old hk
        replace b3 := b3.old hk
        replace b4 := b4.onM hk
        clear c0 c1 e0 e1 d0 d1 d2 d3 d4 d5 f0 f1 f2 f3 f4 f5 HBB
        have c0 := b1.c0
        have c1 := b1.c1
        have e0 := b2.c0
        have e1 := b2.c1
        simp only at c0 c1 e0 e1
        have d0 := b3.at.c0
        have d1 := b3.at.c1
        have d2 := b3.at.c2
        have d3 := b3.at.c3
        have d4 := b3.at.c4
        have d5 := b3.at.c5
        have f0 := b3.fz 0
        have f1 := b3.fz 1
        have f2 := b3.fz 2
        have f3 := b3.fz 3
        have f4 := b3.fz 4
        have f5 := b3.fz 5
        unfold mv0 at d0 d1 d2 d3 d4 d5
        simp only at d0 d1 d2 d3 d4 d5
        have HBB := Lib.hid (And.intro b3 b4)
        clear b1 b2 b3 b4 hk HO HB
        go_wp2_with fail
        have hf := mn_zero HBB.out.1 HBB.out.2
        exact bodyPost_ret (results_mv_tmp rfl _ _ (w.heap.size + 1 + 1) _ rfl hf.1) rfl ⟨rfl, hf.2⟩
    · rw [decide_eq_false h3] at HA
      obtain ⟨ft, fs⟩ := a
      obtain ⟨tt, ts⟩ := b
      unfold spV at HA HB ⊢
      simp only at HS HA HB ⊢
      clear h h3
      go_enter Try.func7, Try.ntmps7
      go_wp2_with fail
      refine (HA.out _).mono ?_
      rintro e V ⟨rfl, hk⟩
      obtain ⟨b1, b2, b3, b4⟩ := HS.out V hk
      have HO := Lib.hid (And.intro b1 (And.intro b2 (And.intro b3 b4)))
      have c0 := b1.c0
      have c1 := b1.c1
      have e0 := b2.c0
      have e1 := b2.c1
      simp only at c0 c1 e0 e1
      have d0 := b3.at.c0
      have d1 := b3.at.c1
      have d2 := b3.at.c2
      have d3 := b3.at.c3
      have d4 := b3.at.c4
      have d5 := b3.at.c5
      have f0 := b3.fz 0
      have f1 := b3.fz 1
      have f2 := b3.fz 2
      have f3 := b3.fz 3
      have f4 := b3.fz 4
      have f5 := b3.fz 5
      unfold mv0 at d0 d1 d2 d3 d4 d5
      simp only at d0 d1 d2 d3 d4 d5
      have HBB := Lib.hid (And.intro b3 b4)
      clear b1 b2 b3 b4 hk HS HA
      clear HB HO
      go_wp2_with fail
      have hf := mn_zero HBB.out.1 HBB.out.2
      exact bodyPost_ret (results_mv_tmp rfl _ _ (w.heap.size + 1 + 1) _ rfl hf.1) rfl ⟨rfl, hf.2⟩

end Go.Proofs.Ytaaohockmpmaoaa
