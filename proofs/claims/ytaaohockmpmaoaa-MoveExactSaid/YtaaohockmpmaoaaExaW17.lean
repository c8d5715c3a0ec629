/- MoveExact of layer 17: the walk: it returns true for every input and writes nothing that was there. -/
import Derived.Test.YtaaohockmpmaoaaAw17
import Derived.Test.YtaaohockmpmaoaaMr17
set_option linter.unusedVariables false
namespace Go.Proofs.Ytaaohockmpmaoaa
open Go.RowKit

/-- The law's box between its deeds. -/
def Ex17 (w : World) (x : Mv) (V : World) : Prop := BoxM w.heap.size x V ∧ KeptIn (· < w.heap.size) w V ∧ w.heap.size < V.heap.size
theorem Ex17.old {w V V' : World} {x : Mv} (h : Ex17 w x V) (hk : KeptIn (· < V.heap.size) V V') : Ex17 w x V' := ⟨h.1.old hk, h.2.1.onM hk, Nat.lt_of_lt_of_le h.2.2 hk.size⟩
theorem ex17_start (w : World) (x : Mv) : Ex17 w x (w.alloc (.cells #[.int .i64 x.ch, .int .i64 x.fr.ti, .int .i64 x.fr.sl, .int .i64 x.to.ti, .int .i64 x.to.sl, .int .i64 x.ph] 25)) := ⟨BoxM.new w x, keptNew _ _, by simp⟩
/-- A phase is stored to another box. -/
theorem Ex17.set {w V : World} {x : Mv} (h : Ex17 w x V) {y : Nat} (hy : w.heap.size < y) (v : Value) : Ex17 w x (V.setCell ⟨y, 5, none⟩ v) := by
  have k1 : KeptIn (· ≠ y) V (V.setCell ⟨y, 5, none⟩ v) := (KeptIn.refl _ V).setCell (p := ⟨y, 5, none⟩) (by simp) _
  exact ⟨(k1.block w.heap.size (by omega)).trans h.1, h.2.1.setCell (p := ⟨y, 5, none⟩) (show ¬ y < w.heap.size by omega) v, Nat.lt_of_lt_of_le h.2.2 k1.size⟩
theorem BoxM.apart {y z : Nat} {x : Mv} {V : World} (h : BoxM y x V) (hyz : y ≠ z) (v : Value) : BoxM y x (V.setCell ⟨z, 5, none⟩ v) :=
  (((KeptIn.refl (· ≠ z) V).setCell (p := ⟨z, 5, none⟩) (by simp) v).block y hyz).trans h


set_option maxHeartbeats 4000000 in
set_option maxRecDepth 100000 in
theorem moveExactW (ch ft fs tt ts ph : Int) (w : World) (ww : (Lit.int .i64 ft).wf = true ∧ (Lit.int .i64 tt).wf = true) :
    Calls Try.prog 3 #[mvV ⟨ch, ⟨ft, fs⟩, ⟨tt, ts⟩, ph⟩] w fun e w' => e = .returned (.bool true) ∧ KeptIn (· < w.heap.size) w w' := by
  have HM := Lib.hid fun V => mvNew ch ⟨ft, fs⟩ ⟨tt, ts⟩ V
  have HK := Lib.hid fun V => r17Can ch ⟨ft, fs⟩ ⟨tt, ts⟩ V ww.1 ww.2
  have HX := Lib.hid (ex17_start w ⟨ch, ⟨ft, fs⟩, ⟨tt, ts⟩, ph⟩)
  have HN := Lib.hid fun V => mvNext ⟨ch, ⟨ft, fs⟩, ⟨tt, ts⟩, ph⟩ V
  have HL := Lib.hid fun V => mvStale ⟨ch, ⟨ft, fs⟩, ⟨tt, ts⟩, ph⟩ V
  have HP := Lib.hid fun V => mvSteps ⟨ch, ⟨ft, fs⟩, ⟨tt, ts⟩, ph⟩ V
  have HB9 := Lib.hid fun V => mvBusy ⟨ch, ⟨ft, fs⟩, ⟨tt, ts⟩, ph⟩ V
  have HRN := Lib.hid fun V => r17Next ph V
  have HRS := Lib.hid fun V => r17Stale ph V
  have HRP := Lib.hid fun V => r17Steps ph V
  have HQ1 := Lib.hid fun V => eqM17 ⟨ch, ⟨ft, fs⟩, ⟨tt, ts⟩, nxt ph⟩ ⟨ch, ⟨ft, fs⟩, ⟨tt, ts⟩, nxt ph⟩ V
  have HQ2 := Lib.hid fun V => eqM17 ⟨ch, ⟨ft, fs⟩, ⟨tt, ts⟩, stl ph⟩ ⟨ch, ⟨ft, fs⟩, ⟨tt, ts⟩, stl ph⟩ V
  have HQ3 := Lib.hid (show decide (0 < stp ph) = bsy ph from rfl)
  unfold NewS newM newE at HM
  unfold BoS at HK HB9
  unfold MvS Mv.next at HN
  unfold MvS Mv.stale at HL
  unfold InM at HP
  unfold spV mvV at HM
  unfold spV at HK
  unfold mvV at HN HL HP HB9 HQ1 HQ2 ⊢
  simp only [decide_true] at HM HK HX HN HL HP HB9 HQ1 HQ2 ⊢
  generalize nxt ph = n1 at HN HRN HQ1
  generalize stl ph = n2 at HL HRS HQ2
  generalize stp ph = k at HP HRP HQ3
  generalize bsy ph = bb at HB9 HQ3
  clear ww
  by_cases hc : CanM ch ⟨ft, fs⟩ ⟨tt, ts⟩
  · rw [if_pos hc, if_pos hc] at HM
    rw [decide_eq_true hc] at HK
    have HQ0 := Lib.hid fun V => neqM17 ⟨ch, ⟨ft, fs⟩, ⟨tt, ts⟩, 1⟩ ⟨ch, ⟨ft, fs⟩, ⟨tt, ts⟩, 1⟩ V
    unfold mvV at HQ0
    simp only [decide_true, Bool.not_true] at HM HQ0
    clear hc
    go_enter Try.func3, Try.ntmps3
    go_wp2_with fail
    refine (awake17 _).mono ?_
    rintro e V1 ⟨rfl, k1⟩
    have H1 := Lib.hid (HX.out.old k1)
    clear k1 HX
    have c0 := H1.out.1.at.c0
    have c1 := H1.out.1.at.c1
    have c2 := H1.out.1.at.c2
    have c3 := H1.out.1.at.c3
    have c4 := H1.out.1.at.c4
    have c5 := H1.out.1.at.c5
    simp only at c0 c1 c2 c3 c4 c5
    go_wp2_with fail
    refine (HM.out _).mono ?_
    rintro e V2 ⟨rfl, k2⟩
    have kk2 := k2.onM (keptNew V2 (.cells #[.int .i64 ch, .int .i64 ft, .int .i64 fs, .int .i64 tt, .int .i64 ts, .int .i64 1] 25))
    have m2 := BoxM.new V2 ⟨ch, ⟨ft, fs⟩, ⟨tt, ts⟩, 1⟩
    simp only at m2
    obtain ⟨W, hW⟩ : ∃ W, V2.alloc (.cells #[.int .i64 ch, .int .i64 ft, .int .i64 fs, .int .i64 tt, .int .i64 ts, .int .i64 1] 25) = W := ⟨_, rfl⟩
    obtain ⟨y, hy⟩ : ∃ y, V2.heap.size = y := ⟨_, rfl⟩
    rw [hW] at m2 kk2
    rw [hy] at m2
    have H2 := Lib.hid (And.intro (H1.out.old kk2) m2)
    have HW := Lib.hid hW
    have HY := Lib.hid hy
    clear m2 kk2 k2 hW hy HM H1
    clear c0 c1 c2 c3 c4 c5
    have c0 := H2.out.1.1.at.c0
    have c1 := H2.out.1.1.at.c1
    have c2 := H2.out.1.1.at.c2
    have c3 := H2.out.1.1.at.c3
    have c4 := H2.out.1.1.at.c4
    simp only at c0 c1 c2 c3 c4
    go_upto_region 4 with fail
    rw [HW.out]
    simp only [HY.out]
    go_wp2_with fail
    refine (HK.out _).mono ?_
    rintro e W4 ⟨rfl, k4⟩
    have H4 := Lib.hid (H2.out.1.old k4)
    have HZ := Lib.hid (H2.out.2.old k4)
    clear k4 HK H2 HW HY c0 c1 c2 c3 c4
    have c0 := H4.out.1.at.c0
    have c1 := H4.out.1.at.c1
    have c2 := H4.out.1.at.c2
    have c3 := H4.out.1.at.c3
    have c4 := H4.out.1.at.c4
    have c5 := H4.out.1.at.c5
    simp only at c0 c1 c2 c3 c4 c5
    have y0 := HZ.out.at.c0
    have y1 := HZ.out.at.c1
    have y2 := HZ.out.at.c2
    have y3 := HZ.out.at.c3
    have y4 := HZ.out.at.c4
    have y5 := HZ.out.at.c5
    simp only at y0 y1 y2 y3 y4 y5
    have q0 := HQ0.out
    go_upto_region 9 with fail
    clear y0 y1 y2 y3 y4 y5 q0 HZ HQ0
    go_upto_region 10 with fail
    obtain ⟨A, hA⟩ : ∃ A, W4.alloc (.cells #[.int .i64 ch, .int .i64 ft, .int .i64 fs, .int .i64 tt, .int .i64 ts, .int .i64 ph] 25) = A := ⟨_, rfl⟩
    obtain ⟨a, ha⟩ : ∃ a, W4.heap.size = a := ⟨_, rfl⟩
    have hxa := H4.out.old (keptNew W4 (.cells #[.int .i64 ch, .int .i64 ft, .int .i64 fs, .int .i64 tt, .int .i64 ts, .int .i64 ph] 25))
    have hba := BoxM.new W4 ⟨ch, ⟨ft, fs⟩, ⟨tt, ts⟩, ph⟩
    have hla := H4.out.2.2
    simp only at hba
    rw [hA] at hxa hba
    rw [ha] at hba hla
    have HA := Lib.hid (And.intro hA ha)
    have H5 := Lib.hid hxa
    have HBA := Lib.hid (And.intro hba hla)
    clear hxa hba hla hA ha H4
    clear c0 c1 c2 c3 c4 c5
    rw [HA.out.1]
    simp only [HA.out.2]
    have c0 := H5.out.1.at.c0
    have c1 := H5.out.1.at.c1
    have c2 := H5.out.1.at.c2
    have c3 := H5.out.1.at.c3
    have c4 := H5.out.1.at.c4
    have c5 := H5.out.1.at.c5
    simp only at c0 c1 c2 c3 c4 c5
    have d5 := HBA.out.1.at.c5
    have g5 := HBA.out.1.fz 5
    simp only at d5
    go_wp2_with fail
    refine (HRN.out _).mono ?_
    rintro e _ ⟨rfl, rfl⟩
    go_upto_region 11 with fail
    have hxb := H5.out.set HBA.out.2 (.int .i64 n1)
    have hbb := HBA.out.1.set5 n1
    obtain ⟨B0, hB0⟩ : ∃ B0, A.setCell ⟨a, 5, none⟩ (.int .i64 n1) = B0 := ⟨_, rfl⟩
    rw [hB0] at hxb hbb
    simp only at hbb
    have HB0 := Lib.hid hB0
    have H6 := Lib.hid hxb
    have HBB := Lib.hid (And.intro hbb HBA.out.2)
    clear hxb hbb hB0 d5 g5 HBA H5 HA
    clear c0 c1 c2 c3 c4 c5
    rw [HB0.out]
    have c0 := H6.out.1.at.c0
    have c1 := H6.out.1.at.c1
    have c2 := H6.out.1.at.c2
    have c3 := H6.out.1.at.c3
    have c4 := H6.out.1.at.c4
    have c5 := H6.out.1.at.c5
    simp only at c0 c1 c2 c3 c4 c5
    go_upto_region 12 with fail
    obtain ⟨B, hB⟩ : ∃ B, B0.alloc (.cells #[.int .i64 ch, .int .i64 ft, .int .i64 fs, .int .i64 tt, .int .i64 ts, .int .i64 ph] 25) = B := ⟨_, rfl⟩
    obtain ⟨b, hb⟩ : ∃ b, B0.heap.size = b := ⟨_, rfl⟩
    have hk9 := keptNew B0 (.cells #[.int .i64 ch, .int .i64 ft, .int .i64 fs, .int .i64 tt, .int .i64 ts, .int .i64 ph] 25)
    have hxc := H6.out.old hk9
    have hac := HBB.out.1.old hk9
    have hbc := BoxM.new B0 ⟨ch, ⟨ft, fs⟩, ⟨tt, ts⟩, ph⟩
    have hlb := H6.out.2.2
    have hlab := HBB.out.1.lt
    simp only at hbc
    rw [hB] at hxc hbc hac
    rw [hb] at hbc hlb hlab
    have HB := Lib.hid (And.intro hB hb)
    have H7 := Lib.hid hxc
    have HBC := Lib.hid (And.intro hac (And.intro hbc (And.intro hlb hlab)))
    clear hxc hbc hlb hlab hB hb hac hk9 H6 HBB HB0
    clear c0 c1 c2 c3 c4 c5
    rw [HB.out.1]
    simp only [HB.out.2]
    have c0 := H7.out.1.at.c0
    have c1 := H7.out.1.at.c1
    have c2 := H7.out.1.at.c2
    have c3 := H7.out.1.at.c3
    have c4 := H7.out.1.at.c4
    have c5 := H7.out.1.at.c5
    simp only at c0 c1 c2 c3 c4 c5
    have d5 := HBC.out.2.1.at.c5
    have g5 := HBC.out.2.1.fz 5
    simp only at d5
    go_wp2_with fail
    refine (HRS.out _).mono ?_
    rintro e _ ⟨rfl, rfl⟩
    go_upto_region 13 with fail
    have hxd := H7.out.set HBC.out.2.2.1 (.int .i64 n2)
    have had := HBC.out.1.apart (Nat.ne_of_lt HBC.out.2.2.2) (.int .i64 n2)
    have hbd := HBC.out.2.1.set5 n2
    obtain ⟨C, hC⟩ : ∃ C, B.setCell ⟨b, 5, none⟩ (.int .i64 n2) = C := ⟨_, rfl⟩
    rw [hC] at hxd had hbd
    simp only at hbd
    have HC := Lib.hid hC
    have H8 := Lib.hid hxd
    have HBD := Lib.hid (And.intro had hbd)
    clear hxd had hbd hC d5 g5 HBC H7 HB
    clear c0 c1 c2 c3 c4 c5
    rw [HC.out]
    have c0 := H8.out.1.at.c0
    have c1 := H8.out.1.at.c1
    have c2 := H8.out.1.at.c2
    have c3 := H8.out.1.at.c3
    have c4 := H8.out.1.at.c4
    have c5 := H8.out.1.at.c5
    simp only at c0 c1 c2 c3 c4 c5
    go_wp2_with fail
    refine (HRP.out _).mono ?_
    rintro e _ ⟨rfl, rfl⟩
    clear c0 c1 c2 c3 c4 c5
    clear HC
    go_upto_region 14 with fail
    have c0 : ∀ p : KW C, p.V.cell? ⟨w.heap.size, 0, none⟩ = some (.int .i64 ch) := fun p => (H8.out.1.old p.hk).at.c0
    have c1 : ∀ p : KW C, p.V.cell? ⟨w.heap.size, 1, none⟩ = some (.int .i64 ft) := fun p => (H8.out.1.old p.hk).at.c1
    have c2 : ∀ p : KW C, p.V.cell? ⟨w.heap.size, 2, none⟩ = some (.int .i64 fs) := fun p => (H8.out.1.old p.hk).at.c2
    have c3 : ∀ p : KW C, p.V.cell? ⟨w.heap.size, 3, none⟩ = some (.int .i64 tt) := fun p => (H8.out.1.old p.hk).at.c3
    have c4 : ∀ p : KW C, p.V.cell? ⟨w.heap.size, 4, none⟩ = some (.int .i64 ts) := fun p => (H8.out.1.old p.hk).at.c4
    have c5 : ∀ p : KW C, p.V.cell? ⟨w.heap.size, 5, none⟩ = some (.int .i64 ph) := fun p => (H8.out.1.old p.hk).at.c5
    have d0 : ∀ p : KW C, p.V.cell? ⟨a, 0, none⟩ = some (.int .i64 ch) := fun p => (HBD.out.1.old p.hk).at.c0
    have d1 : ∀ p : KW C, p.V.cell? ⟨a, 1, none⟩ = some (.int .i64 ft) := fun p => (HBD.out.1.old p.hk).at.c1
    have d2 : ∀ p : KW C, p.V.cell? ⟨a, 2, none⟩ = some (.int .i64 fs) := fun p => (HBD.out.1.old p.hk).at.c2
    have d3 : ∀ p : KW C, p.V.cell? ⟨a, 3, none⟩ = some (.int .i64 tt) := fun p => (HBD.out.1.old p.hk).at.c3
    have d4 : ∀ p : KW C, p.V.cell? ⟨a, 4, none⟩ = some (.int .i64 ts) := fun p => (HBD.out.1.old p.hk).at.c4
    have d5 : ∀ p : KW C, p.V.cell? ⟨a, 5, none⟩ = some (.int .i64 n1) := fun p => (HBD.out.1.old p.hk).at.c5
    have e0 : ∀ p : KW C, p.V.cell? ⟨b, 0, none⟩ = some (.int .i64 ch) := fun p => (HBD.out.2.old p.hk).at.c0
    have e1 : ∀ p : KW C, p.V.cell? ⟨b, 1, none⟩ = some (.int .i64 ft) := fun p => (HBD.out.2.old p.hk).at.c1
    have e2 : ∀ p : KW C, p.V.cell? ⟨b, 2, none⟩ = some (.int .i64 fs) := fun p => (HBD.out.2.old p.hk).at.c2
    have e3 : ∀ p : KW C, p.V.cell? ⟨b, 3, none⟩ = some (.int .i64 tt) := fun p => (HBD.out.2.old p.hk).at.c3
    have e4 : ∀ p : KW C, p.V.cell? ⟨b, 4, none⟩ = some (.int .i64 ts) := fun p => (HBD.out.2.old p.hk).at.c4
    have e5 : ∀ p : KW C, p.V.cell? ⟨b, 5, none⟩ = some (.int .i64 n2) := fun p => (HBD.out.2.old p.hk).at.c5
    have q1 := HQ1.out
    have q2 := HQ2.out
    have q3 := HQ3.out
    refine wp_region_quiet_kept (by kernel_rfl) (by kernel_rfl) ?_
    repeat (go_big_quiet_step (first | (go_at_call 12; exact Calls.kept_of (HN.out _)) | (go_at_call 13; exact Calls.kept_of (HL.out _)) | (go_at_call 14; exact Calls.kept_of (HP.out _)) | (go_at_call 15; exact Calls.kept_of (HB9.out _))))
    refine wpQuiet_nil ?_
    intro V9 hw'
    obtain ⟨⟨V8, hV⟩, hw''⟩ := hw'
    subst hw''
    have HF := Lib.hid (H8.out.2.1.onM hV)
    clear c0 c1 c2 c3 c4 c5 d0 d1 d2 d3 d4 d5 e0 e1 e2 e3 e4 e5 q1 q2 hV H8 HBD HQ1 HQ2 HN HL HP HB9
    go_wp2_with fail
    go_ret
    exact ⟨by simp, HF.out⟩
  · rw [if_neg hc, if_neg hc] at HM
    rw [decide_eq_false hc] at HK
    have HQ0 := Lib.hid fun V => neqM17 mv0 mv0 V
    unfold mvV mv0 at HQ0
    unfold mv0 at HM
    simp only [decide_true, Bool.not_true] at HM HQ0
    clear hc
    go_enter Try.func3, Try.ntmps3
    go_wp2_with fail
    refine (awake17 _).mono ?_
    rintro e V1 ⟨rfl, k1⟩
    have H1 := Lib.hid (HX.out.old k1)
    clear k1 HX
    have c0 := H1.out.1.at.c0
    have c1 := H1.out.1.at.c1
    have c2 := H1.out.1.at.c2
    have c3 := H1.out.1.at.c3
    have c4 := H1.out.1.at.c4
    have c5 := H1.out.1.at.c5
    simp only at c0 c1 c2 c3 c4 c5
    go_wp2_with fail
    refine (HM.out _).mono ?_
    rintro e V2 ⟨rfl, k2⟩
    have kk2 := k2.onM (keptNew V2 (.cells #[.int .i64 0, .int .i64 0, .int .i64 0, .int .i64 0, .int .i64 0, .int .i64 0] 25))
    have m2 := BoxM.new V2 ⟨0, ⟨0, 0⟩, ⟨0, 0⟩, 0⟩
    simp only at m2
    obtain ⟨W, hW⟩ : ∃ W, V2.alloc (.cells #[.int .i64 0, .int .i64 0, .int .i64 0, .int .i64 0, .int .i64 0, .int .i64 0] 25) = W := ⟨_, rfl⟩
    obtain ⟨y, hy⟩ : ∃ y, V2.heap.size = y := ⟨_, rfl⟩
    rw [hW] at m2 kk2
    rw [hy] at m2
    have H2 := Lib.hid (And.intro (H1.out.old kk2) m2)
    have HW := Lib.hid hW
    have HY := Lib.hid hy
    clear m2 kk2 k2 hW hy HM H1
    clear c0 c1 c2 c3 c4 c5
    have c0 := H2.out.1.1.at.c0
    have c1 := H2.out.1.1.at.c1
    have c2 := H2.out.1.1.at.c2
    have c3 := H2.out.1.1.at.c3
    have c4 := H2.out.1.1.at.c4
    simp only at c0 c1 c2 c3 c4
    go_upto_region 4 with fail
    rw [HW.out]
    simp only [HY.out]
    go_wp2_with fail
    refine (HK.out _).mono ?_
    rintro e W4 ⟨rfl, k4⟩
    have H4 := Lib.hid (H2.out.1.old k4)
    have HZ := Lib.hid (H2.out.2.old k4)
    clear k4 HK H2 HW HY c0 c1 c2 c3 c4
    have c0 := H4.out.1.at.c0
    have c1 := H4.out.1.at.c1
    have c2 := H4.out.1.at.c2
    have c3 := H4.out.1.at.c3
    have c4 := H4.out.1.at.c4
    have c5 := H4.out.1.at.c5
    simp only at c0 c1 c2 c3 c4 c5
    have y0 := HZ.out.at.c0
    have y1 := HZ.out.at.c1
    have y2 := HZ.out.at.c2
    have y3 := HZ.out.at.c3
    have y4 := HZ.out.at.c4
    have y5 := HZ.out.at.c5
    simp only at y0 y1 y2 y3 y4 y5
    have q0 := HQ0.out
    go_upto_region 9 with fail
    clear y0 y1 y2 y3 y4 y5 q0 HZ HQ0
    go_upto_region 10 with fail
    obtain ⟨A, hA⟩ : ∃ A, W4.alloc (.cells #[.int .i64 ch, .int .i64 ft, .int .i64 fs, .int .i64 tt, .int .i64 ts, .int .i64 ph] 25) = A := ⟨_, rfl⟩
    obtain ⟨a, ha⟩ : ∃ a, W4.heap.size = a := ⟨_, rfl⟩
    have hxa := H4.out.old (keptNew W4 (.cells #[.int .i64 ch, .int .i64 ft, .int .i64 fs, .int .i64 tt, .int .i64 ts, .int .i64 ph] 25))
    have hba := BoxM.new W4 ⟨ch, ⟨ft, fs⟩, ⟨tt, ts⟩, ph⟩
    have hla := H4.out.2.2
    simp only at hba
    rw [hA] at hxa hba
    rw [ha] at hba hla
    have HA := Lib.hid (And.intro hA ha)
    have H5 := Lib.hid hxa
    have HBA := Lib.hid (And.intro hba hla)
    clear hxa hba hla hA ha H4
    clear c0 c1 c2 c3 c4 c5
    rw [HA.out.1]
    simp only [HA.out.2]
    have c0 := H5.out.1.at.c0
    have c1 := H5.out.1.at.c1
    have c2 := H5.out.1.at.c2
    have c3 := H5.out.1.at.c3
    have c4 := H5.out.1.at.c4
    have c5 := H5.out.1.at.c5
    simp only at c0 c1 c2 c3 c4 c5
    have d5 := HBA.out.1.at.c5
    have g5 := HBA.out.1.fz 5
    simp only at d5
    go_wp2_with fail
    refine (HRN.out _).mono ?_
    rintro e _ ⟨rfl, rfl⟩
    go_upto_region 11 with fail
    have hxb := H5.out.set HBA.out.2 (.int .i64 n1)
    have hbb := HBA.out.1.set5 n1
    obtain ⟨B0, hB0⟩ : ∃ B0, A.setCell ⟨a, 5, none⟩ (.int .i64 n1) = B0 := ⟨_, rfl⟩
    rw [hB0] at hxb hbb
    simp only at hbb
    have HB0 := Lib.hid hB0
    have H6 := Lib.hid hxb
    have HBB := Lib.hid (And.intro hbb HBA.out.2)
    clear hxb hbb hB0 d5 g5 HBA H5 HA
    clear c0 c1 c2 c3 c4 c5
    rw [HB0.out]
    have c0 := H6.out.1.at.c0
    have c1 := H6.out.1.at.c1
    have c2 := H6.out.1.at.c2
    have c3 := H6.out.1.at.c3
    have c4 := H6.out.1.at.c4
    have c5 := H6.out.1.at.c5
    simp only at c0 c1 c2 c3 c4 c5
    go_upto_region 12 with fail
    obtain ⟨B, hB⟩ : ∃ B, B0.alloc (.cells #[.int .i64 ch, .int .i64 ft, .int .i64 fs, .int .i64 tt, .int .i64 ts, .int .i64 ph] 25) = B := ⟨_, rfl⟩
    obtain ⟨b, hb⟩ : ∃ b, B0.heap.size = b := ⟨_, rfl⟩
    have hk9 := keptNew B0 (.cells #[.int .i64 ch, .int .i64 ft, .int .i64 fs, .int .i64 tt, .int .i64 ts, .int .i64 ph] 25)
    have hxc := H6.out.old hk9
    have hac := HBB.out.1.old hk9
    have hbc := BoxM.new B0 ⟨ch, ⟨ft, fs⟩, ⟨tt, ts⟩, ph⟩
    have hlb := H6.out.2.2
    have hlab := HBB.out.1.lt
    simp only at hbc
    rw [hB] at hxc hbc hac
    rw [hb] at hbc hlb hlab
    have HB := Lib.hid (And.intro hB hb)
    have H7 := Lib.hid hxc
    have HBC := Lib.hid (And.intro hac (And.intro hbc (And.intro hlb hlab)))
    clear hxc hbc hlb hlab hB hb hac hk9 H6 HBB HB0
    clear c0 c1 c2 c3 c4 c5
    rw [HB.out.1]
    simp only [HB.out.2]
    have c0 := H7.out.1.at.c0
    have c1 := H7.out.1.at.c1
    have c2 := H7.out.1.at.c2
    have c3 := H7.out.1.at.c3
    have c4 := H7.out.1.at.c4
    have c5 := H7.out.1.at.c5
    simp only at c0 c1 c2 c3 c4 c5
    have d5 := HBC.out.2.1.at.c5
    have g5 := HBC.out.2.1.fz 5
    simp only at d5
    go_wp2_with fail
    refine (HRS.out _).mono ?_
    rintro e _ ⟨rfl, rfl⟩
    go_upto_region 13 with fail
    have hxd := H7.out.set HBC.out.2.2.1 (.int .i64 n2)
    have had := HBC.out.1.apart (Nat.ne_of_lt HBC.out.2.2.2) (.int .i64 n2)
    have hbd := HBC.out.2.1.set5 n2
    obtain ⟨C, hC⟩ : ∃ C, B.setCell ⟨b, 5, none⟩ (.int .i64 n2) = C := ⟨_, rfl⟩
    rw [hC] at hxd had hbd
    simp only at hbd
    have HC := Lib.hid hC
    have H8 := Lib.hid hxd
    have HBD := Lib.hid (And.intro had hbd)
    clear hxd had hbd hC d5 g5 HBC H7 HB
    clear c0 c1 c2 c3 c4 c5
    rw [HC.out]
    have c0 := H8.out.1.at.c0
    have c1 := H8.out.1.at.c1
    have c2 := H8.out.1.at.c2
    have c3 := H8.out.1.at.c3
    have c4 := H8.out.1.at.c4
    have c5 := H8.out.1.at.c5
    simp only at c0 c1 c2 c3 c4 c5
    go_wp2_with fail
    refine (HRP.out _).mono ?_
    rintro e _ ⟨rfl, rfl⟩
    clear c0 c1 c2 c3 c4 c5
    clear HC
    go_upto_region 14 with fail
    have c0 : ∀ p : KW C, p.V.cell? ⟨w.heap.size, 0, none⟩ = some (.int .i64 ch) := fun p => (H8.out.1.old p.hk).at.c0
    have c1 : ∀ p : KW C, p.V.cell? ⟨w.heap.size, 1, none⟩ = some (.int .i64 ft) := fun p => (H8.out.1.old p.hk).at.c1
    have c2 : ∀ p : KW C, p.V.cell? ⟨w.heap.size, 2, none⟩ = some (.int .i64 fs) := fun p => (H8.out.1.old p.hk).at.c2
    have c3 : ∀ p : KW C, p.V.cell? ⟨w.heap.size, 3, none⟩ = some (.int .i64 tt) := fun p => (H8.out.1.old p.hk).at.c3
    have c4 : ∀ p : KW C, p.V.cell? ⟨w.heap.size, 4, none⟩ = some (.int .i64 ts) := fun p => (H8.out.1.old p.hk).at.c4
    have c5 : ∀ p : KW C, p.V.cell? ⟨w.heap.size, 5, none⟩ = some (.int .i64 ph) := fun p => (H8.out.1.old p.hk).at.c5
    have d0 : ∀ p : KW C, p.V.cell? ⟨a, 0, none⟩ = some (.int .i64 ch) := fun p => (HBD.out.1.old p.hk).at.c0
    have d1 : ∀ p : KW C, p.V.cell? ⟨a, 1, none⟩ = some (.int .i64 ft) := fun p => (HBD.out.1.old p.hk).at.c1
    have d2 : ∀ p : KW C, p.V.cell? ⟨a, 2, none⟩ = some (.int .i64 fs) := fun p => (HBD.out.1.old p.hk).at.c2
    have d3 : ∀ p : KW C, p.V.cell? ⟨a, 3, none⟩ = some (.int .i64 tt) := fun p => (HBD.out.1.old p.hk).at.c3
    have d4 : ∀ p : KW C, p.V.cell? ⟨a, 4, none⟩ = some (.int .i64 ts) := fun p => (HBD.out.1.old p.hk).at.c4
    have d5 : ∀ p : KW C, p.V.cell? ⟨a, 5, none⟩ = some (.int .i64 n1) := fun p => (HBD.out.1.old p.hk).at.c5
    have e0 : ∀ p : KW C, p.V.cell? ⟨b, 0, none⟩ = some (.int .i64 ch) := fun p => (HBD.out.2.old p.hk).at.c0
    have e1 : ∀ p : KW C, p.V.cell? ⟨b, 1, none⟩ = some (.int .i64 ft) := fun p => (HBD.out.2.old p.hk).at.c1
    have e2 : ∀ p : KW C, p.V.cell? ⟨b, 2, none⟩ = some (.int .i64 fs) := fun p => (HBD.out.2.old p.hk).at.c2
    have e3 : ∀ p : KW C, p.V.cell? ⟨b, 3, none⟩ = some (.int .i64 tt) := fun p => (HBD.out.2.old p.hk).at.c3
    have e4 : ∀ p : KW C, p.V.cell? ⟨b, 4, none⟩ = some (.int .i64 ts) := fun p => (HBD.out.2.old p.hk).at.c4
    have e5 : ∀ p : KW C, p.V.cell? ⟨b, 5, none⟩ = some (.int .i64 n2) := fun p => (HBD.out.2.old p.hk).at.c5
    have q1 := HQ1.out
    have q2 := HQ2.out
    have q3 := HQ3.out
    refine wp_region_quiet_kept (by kernel_rfl) (by kernel_rfl) ?_
    repeat (go_big_quiet_step (first | (go_at_call 12; exact Calls.kept_of (HN.out _)) | (go_at_call 13; exact Calls.kept_of (HL.out _)) | (go_at_call 14; exact Calls.kept_of (HP.out _)) | (go_at_call 15; exact Calls.kept_of (HB9.out _))))
    refine wpQuiet_nil ?_
    intro V9 hw'
    obtain ⟨⟨V8, hV⟩, hw''⟩ := hw'
    subst hw''
    have HF := Lib.hid (H8.out.2.1.onM hV)
    clear c0 c1 c2 c3 c4 c5 d0 d1 d2 d3 d4 d5 e0 e1 e2 e3 e4 e5 q1 q2 hV H8 HBD HQ1 HQ2 HN HL HP HB9
    go_wp2_with fail
    go_ret
    exact ⟨by simp, HF.out⟩

end Go.Proofs.Ytaaohockmpmaoaa
