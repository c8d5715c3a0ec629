/- Package move's functions, and the document's. -/
import Derived.Test.YtaaohockmpmaoaaMv17
set_option linter.unusedVariables false
namespace Go.Proofs.Ytaaohockmpmaoaa
open Go.RowKit

def BoS (w : World) (b : Bool) (e : Ending) (w' : World) : Prop := e = .returned (.bool b) ∧ KeptIn (· < w.heap.size) w w'
def InM (w : World) (n : Int) (e : Ending) (w' : World) : Prop := e = .returned (.int .i64 n) ∧ KeptIn (· < w.heap.size) w w'
def MvS (w : World) (x : Mv) (e : Ending) (w' : World) : Prop := e = .returned (mvV x) ∧ KeptIn (· < w.heap.size) w w'

set_option maxHeartbeats 1000000 in
theorem mvCan (x : Sp) (w : World) : Calls Try.prog 16 #[spV x] w (BoS w (decide (CanS x))) := by
  obtain ⟨ti, sl⟩ := x
  unfold spV BoS
  simp only
  have HK := Lib.hid (keptNew w (.cells #[.int .i64 ti, .int .i64 sl] 23))
  by_cases t0 : ti = 0
  · subst t0
    by_cases h4 : (0 : Int) ≤ sl
    · by_cases h5 : sl < 256
      · rw [decide_eq_true (show CanS ⟨0, sl⟩ from ⟨by simp, h4, h5⟩)]
        go_enter Try.func16, Try.ntmps16
        go_wp2_with fail
        go_ret
        exact ⟨rfl, HK.out⟩
      · rw [decide_eq_false (fun h : CanS ⟨0, sl⟩ => h5 h.2.2)]
        go_enter Try.func16, Try.ntmps16
        go_wp2_with fail
        go_ret
        exact ⟨rfl, HK.out⟩
    · rw [decide_eq_false (fun h : CanS ⟨0, sl⟩ => h4 h.2.1)]
      go_enter Try.func16, Try.ntmps16
      go_wp2_with fail
      go_ret
      exact ⟨rfl, HK.out⟩
  · by_cases t1 : ti = 1
    · subst t1
      by_cases h4 : (0 : Int) ≤ sl
      · by_cases h5 : sl < 256
        · rw [decide_eq_true (show CanS ⟨1, sl⟩ from ⟨by simp, h4, h5⟩)]
          go_enter Try.func16, Try.ntmps16
          go_wp2_with fail
          go_ret
          exact ⟨rfl, HK.out⟩
        · rw [decide_eq_false (fun h : CanS ⟨1, sl⟩ => h5 h.2.2)]
          go_enter Try.func16, Try.ntmps16
          go_wp2_with fail
          go_ret
          exact ⟨rfl, HK.out⟩
      · rw [decide_eq_false (fun h : CanS ⟨1, sl⟩ => h4 h.2.1)]
        go_enter Try.func16, Try.ntmps16
        go_wp2_with fail
        go_ret
        exact ⟨rfl, HK.out⟩
    · have b0 : (ti == 0) = false := by rw [beq_eq_false_iff_ne]; exact t0
      have b1 : (ti == 1) = false := by rw [beq_eq_false_iff_ne]; exact t1
      rw [decide_eq_false (fun h : CanS ⟨ti, sl⟩ => by obtain ⟨g1, g2, g3⟩ := h; simp only at g1 g2 g3; omega)]
      go_enter Try.func16, Try.ntmps16
      go_wp2_with fail
      go_ret
      exact ⟨rfl, HK.out⟩

theorem mvSteps (x : Mv) (w : World) : Calls Try.prog 14 #[mvV x] w (InM w (stp x.ph)) := by
  obtain ⟨ch, ⟨ft, fs⟩, ⟨tt, ts⟩, p⟩ := x
  unfold mvV InM
  simp only
  have HK := Lib.hid (keptNew w (.cells #[.int .i64 ch, .int .i64 ft, .int .i64 fs, .int .i64 tt, .int .i64 ts, .int .i64 p] 25))
  by_cases h1 : p < 1
  · rw [show stp p = 0 from if_neg (by omega)]
    go_enter Try.func14, Try.ntmps14
    go_wp2_with fail
    go_ret
    exact ⟨rfl, HK.out⟩
  · by_cases h2 : 4 < p
    · rw [show stp p = 0 from if_neg (by omega)]
      go_enter Try.func14, Try.ntmps14
      go_wp2_with fail
      go_ret
      exact ⟨rfl, HK.out⟩
    · have e : 4 - p = stp p := by
        unfold stp
        split <;> omega
      rw [← e]
      clear e
      go_enter Try.func14, Try.ntmps14
      go_wp2_with fail
      go_ret
      exact ⟨rfl, HK.out⟩

theorem mvBusy (x : Mv) (w : World) : Calls Try.prog 15 #[mvV x] w (BoS w (bsy x.ph)) := by
  have hk := keptNew w (.cells #[.int .i64 x.ch, .int .i64 x.fr.ti, .int .i64 x.fr.sl, .int .i64 x.to.ti, .int .i64 x.to.sl, .int .i64 x.ph] 25)
  have C := Lib.hid (mvSteps x (w.alloc (.cells #[.int .i64 x.ch, .int .i64 x.fr.ti, .int .i64 x.fr.sl, .int .i64 x.to.ti, .int .i64 x.to.sl, .int .i64 x.ph] 25)))
  unfold InM at C
  have HK := Lib.hid hk
  clear hk
  unfold bsy
  obtain ⟨ch, ⟨ft, fs⟩, ⟨tt, ts⟩, p⟩ := x
  unfold mvV at C ⊢
  unfold BoS
  simp only at C HK ⊢
  generalize stp p = k at C ⊢
  go_enter Try.func15, Try.ntmps15
  go_wp2_with fail
  refine C.out.mono ?_
  rintro e V ⟨rfl, k1⟩
  have HK1 := Lib.hid (HK.out.onM k1)
  clear k1
  go_wp2_with fail
  go_ret
  exact ⟨rfl, HK1.out⟩

/-- The two boxes of Next and Stale. -/
theorem mv_boxes (w : World) (x : Mv) : ∀ V, KeptIn (· < ((w.alloc (.cells #[.int .i64 x.ch, .int .i64 x.fr.ti, .int .i64 x.fr.sl, .int .i64 x.to.ti, .int .i64 x.to.sl, .int .i64 x.ph] 25)).alloc (.cells #[.int .i64 0, .int .i64 0, .int .i64 0, .int .i64 0, .int .i64 0, .int .i64 0] 25)).heap.size) ((w.alloc (.cells #[.int .i64 x.ch, .int .i64 x.fr.ti, .int .i64 x.fr.sl, .int .i64 x.to.ti, .int .i64 x.to.sl, .int .i64 x.ph] 25)).alloc (.cells #[.int .i64 0, .int .i64 0, .int .i64 0, .int .i64 0, .int .i64 0, .int .i64 0] 25)) V →
    BoxM w.heap.size x V ∧ BoxM (w.heap.size + 1) mv0 V ∧ KeptIn (· < w.heap.size) w V := by
  intro V hk
  have h1 := BoxM.new w x
  obtain ⟨W1, hW1⟩ : ∃ W1, w.alloc (.cells #[.int .i64 x.ch, .int .i64 x.fr.ti, .int .i64 x.fr.sl, .int .i64 x.to.ti, .int .i64 x.to.sl, .int .i64 x.ph] 25) = W1 := ⟨_, rfl⟩
  have hk1 : KeptIn (· < w.heap.size) w W1 := by rw [← hW1]; exact keptNew _ _
  have hs : W1.heap.size = w.heap.size + 1 := by rw [← hW1]; simp
  rw [hW1] at h1 hk
  have h2 : BoxM W1.heap.size mv0 (W1.alloc (.cells #[.int .i64 0, .int .i64 0, .int .i64 0, .int .i64 0, .int .i64 0, .int .i64 0] 25)) := BoxM.new W1 mv0
  have hk2 : KeptIn (· < W1.heap.size) W1 (W1.alloc (.cells #[.int .i64 0, .int .i64 0, .int .i64 0, .int .i64 0, .int .i64 0, .int .i64 0] 25)) := keptNew _ _
  rw [hs] at h2
  have hk3 := hk2.onM hk
  exact ⟨h1.old hk3, h2.old hk, hk1.onM hk3⟩
/-- What the two boxes are once the phase is told, and the result laid. -/
theorem mv_fin {w V : World} {x : Mv} (h1 : BoxM w.heap.size x V) (h2 : BoxM (w.heap.size + 1) mv0 V) (hk : KeptIn (· < w.heap.size) w V) (p : Int) :
    BoxM (w.heap.size + 1) ⟨x.ch, x.fr, x.to, p⟩ (st17 (V.setCell ⟨w.heap.size, 5, none⟩ (.int .i64 p)) (w.heap.size + 1) ⟨x.ch, x.fr, x.to, p⟩) ∧ KeptIn (· < w.heap.size) w (st17 (V.setCell ⟨w.heap.size, 5, none⟩ (.int .i64 p)) (w.heap.size + 1) ⟨x.ch, x.fr, x.to, p⟩) := by
  have k1 : KeptIn (· ≠ w.heap.size) V (V.setCell ⟨w.heap.size, 5, none⟩ (.int .i64 p)) := (KeptIn.refl _ V).setCell (p := ⟨w.heap.size, 5, none⟩) (by simp) _
  have h3 : BoxM (w.heap.size + 1) mv0 (V.setCell ⟨w.heap.size, 5, none⟩ (.int .i64 p)) := (k1.block (w.heap.size + 1) (by simp)).trans h2
  exact ⟨h3.store _, (hk.setCell (p := ⟨w.heap.size, 5, none⟩) (by simp) _).st17 (by simp) _⟩
theorem mv_fin0 {w V : World} {x : Mv} (h2 : BoxM (w.heap.size + 1) mv0 V) (hk : KeptIn (· < w.heap.size) w V) :
    BoxM (w.heap.size + 1) x (st17 V (w.heap.size + 1) x) ∧ KeptIn (· < w.heap.size) w (st17 V (w.heap.size + 1) x) := ⟨h2.store _, hk.st17 (by simp) _⟩

set_option maxHeartbeats 1000000 in
theorem mvNext (x : Mv) (w : World) : Calls Try.prog 12 #[mvV x] w (MvS w x.next) := by
  have HS := Lib.hid (mv_boxes w x)
  have HC := Lib.hid fun V => mvBusy x V
  obtain ⟨ch, ⟨ft, fs⟩, ⟨tt, ts⟩, p⟩ := x
  unfold mvV BoS at HC
  unfold MvS Mv.next mvV
  simp only at HS HC ⊢
  by_cases hb : 1 ≤ p ∧ p ≤ 3
  · rw [(bsy_iff p).2 hb] at HC
    have e : p + 1 = nxt p := by unfold nxt; rw [if_pos hb]
    rw [← e]
    have i1 := hb.1
    have i2 := hb.2
    clear e hb
    go_enter Try.func12, Try.ntmps12
    go_wp2_with fail
    refine (HC.out _).mono ?_
    rintro e V ⟨rfl, hk⟩
    obtain ⟨b1, b2, b3⟩ := HS.out V hk
    have c0 := b1.at.c0
    have c1 := b1.at.c1
    have c2 := b1.at.c2
    have c3 := b1.at.c3
    have c4 := b1.at.c4
    have c5 := b1.at.c5
    have g0 := b1.fz 5
    have d0 := b2.at.c0
    have d1 := b2.at.c1
    have d2 := b2.at.c2
    have d3 := b2.at.c3
    have d4 := b2.at.c4
    have d5 := b2.at.c5
    have f0 := b2.fz 0
    have f1 := b2.fz 1
    have f2 := b2.fz 2
    have f3 := b2.fz 3
    have f4 := b2.fz 4
    have f5 := b2.fz 5
    have HBB := Lib.hid (And.intro b1 (And.intro b2 b3))
    clear b1 b2 b3
    unfold mv0 at d0 d1 d2 d3 d4 d5
    simp only at c0 c1 c2 c3 c4 c5 d0 d1 d2 d3 d4 d5
    clear hk HS HC
    go_wp2_with fail
    have hf := mv_fin HBB.out.1 HBB.out.2.1 HBB.out.2.2 (p + 1)
    exact bodyPost_ret (results_mv rfl _ _ (w.heap.size + 1) _ rfl hf.1) rfl ⟨rfl, hf.2⟩
  · rw [show bsy p = false from Bool.eq_false_iff.2 fun h => hb ((bsy_iff p).1 h)] at HC
    have e : nxt p = p := by unfold nxt; rw [if_neg hb]
    rw [e]
    clear e hb
    go_enter Try.func12, Try.ntmps12
    go_wp2_with fail
    refine (HC.out _).mono ?_
    rintro e V ⟨rfl, hk⟩
    obtain ⟨b1, b2, b3⟩ := HS.out V hk
    have c0 := b1.at.c0
    have c1 := b1.at.c1
    have c2 := b1.at.c2
    have c3 := b1.at.c3
    have c4 := b1.at.c4
    have c5 := b1.at.c5
    have g0 := b1.fz 5
    have d0 := b2.at.c0
    have d1 := b2.at.c1
    have d2 := b2.at.c2
    have d3 := b2.at.c3
    have d4 := b2.at.c4
    have d5 := b2.at.c5
    have f0 := b2.fz 0
    have f1 := b2.fz 1
    have f2 := b2.fz 2
    have f3 := b2.fz 3
    have f4 := b2.fz 4
    have f5 := b2.fz 5
    have HBB := Lib.hid (And.intro b1 (And.intro b2 b3))
    clear b1 b2 b3
    unfold mv0 at d0 d1 d2 d3 d4 d5
    simp only at c0 c1 c2 c3 c4 c5 d0 d1 d2 d3 d4 d5
    clear hk HS HC
    go_wp2_with fail
    have hf := mv_fin0 (x := ⟨ch, ⟨ft, fs⟩, ⟨tt, ts⟩, p⟩) HBB.out.2.1 HBB.out.2.2
    exact bodyPost_ret (results_mv rfl _ _ (w.heap.size + 1) _ rfl hf.1) rfl ⟨rfl, hf.2⟩
set_option maxHeartbeats 1000000 in
theorem mvStale (x : Mv) (w : World) : Calls Try.prog 13 #[mvV x] w (MvS w x.stale) := by
  have HS := Lib.hid (mv_boxes w x)
  have HC := Lib.hid fun V => mvBusy x V
  obtain ⟨ch, ⟨ft, fs⟩, ⟨tt, ts⟩, p⟩ := x
  unfold mvV BoS at HC
  unfold MvS Mv.stale mvV
  simp only at HS HC ⊢
  by_cases hb : 1 ≤ p ∧ p ≤ 3
  · rw [(bsy_iff p).2 hb] at HC
    have e : 1 = stl p := by unfold stl; rw [if_pos hb]
    rw [← e]
    have i1 := hb.1
    have i2 := hb.2
    clear e hb
    go_enter Try.func13, Try.ntmps13
    go_wp2_with fail
    refine (HC.out _).mono ?_
    rintro e V ⟨rfl, hk⟩
    obtain ⟨b1, b2, b3⟩ := HS.out V hk
    have c0 := b1.at.c0
    have c1 := b1.at.c1
    have c2 := b1.at.c2
    have c3 := b1.at.c3
    have c4 := b1.at.c4
    have c5 := b1.at.c5
    have g0 := b1.fz 5
    have d0 := b2.at.c0
    have d1 := b2.at.c1
    have d2 := b2.at.c2
    have d3 := b2.at.c3
    have d4 := b2.at.c4
    have d5 := b2.at.c5
    have f0 := b2.fz 0
    have f1 := b2.fz 1
    have f2 := b2.fz 2
    have f3 := b2.fz 3
    have f4 := b2.fz 4
    have f5 := b2.fz 5
    have HBB := Lib.hid (And.intro b1 (And.intro b2 b3))
    clear b1 b2 b3
    unfold mv0 at d0 d1 d2 d3 d4 d5
    simp only at c0 c1 c2 c3 c4 c5 d0 d1 d2 d3 d4 d5
    clear hk HS HC
    go_wp2_with fail
    have hf := mv_fin HBB.out.1 HBB.out.2.1 HBB.out.2.2 (1)
    exact bodyPost_ret (results_mv rfl _ _ (w.heap.size + 1) _ rfl hf.1) rfl ⟨rfl, hf.2⟩
  · rw [show bsy p = false from Bool.eq_false_iff.2 fun h => hb ((bsy_iff p).1 h)] at HC
    have e : stl p = p := by unfold stl; rw [if_neg hb]
    rw [e]
    clear e hb
    go_enter Try.func13, Try.ntmps13
    go_wp2_with fail
    refine (HC.out _).mono ?_
    rintro e V ⟨rfl, hk⟩
    obtain ⟨b1, b2, b3⟩ := HS.out V hk
    have c0 := b1.at.c0
    have c1 := b1.at.c1
    have c2 := b1.at.c2
    have c3 := b1.at.c3
    have c4 := b1.at.c4
    have c5 := b1.at.c5
    have g0 := b1.fz 5
    have d0 := b2.at.c0
    have d1 := b2.at.c1
    have d2 := b2.at.c2
    have d3 := b2.at.c3
    have d4 := b2.at.c4
    have d5 := b2.at.c5
    have f0 := b2.fz 0
    have f1 := b2.fz 1
    have f2 := b2.fz 2
    have f3 := b2.fz 3
    have f4 := b2.fz 4
    have f5 := b2.fz 5
    have HBB := Lib.hid (And.intro b1 (And.intro b2 b3))
    clear b1 b2 b3
    unfold mv0 at d0 d1 d2 d3 d4 d5
    simp only at c0 c1 c2 c3 c4 c5 d0 d1 d2 d3 d4 d5
    clear hk HS HC
    go_wp2_with fail
    have hf := mv_fin0 (x := ⟨ch, ⟨ft, fs⟩, ⟨tt, ts⟩, p⟩) HBB.out.2.1 HBB.out.2.2
    exact bodyPost_ret (results_mv rfl _ _ (w.heap.size + 1) _ rfl hf.1) rfl ⟨rfl, hf.2⟩

end Go.Proofs.Ytaaohockmpmaoaa
