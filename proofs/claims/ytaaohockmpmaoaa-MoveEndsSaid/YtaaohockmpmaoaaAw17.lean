/- awake of layer 17; contracts of package move's functions in a drawn region. -/
import Derived.Test.YtaaohockmpmaoaaMn17
import Derived.Test.YtaaohockmpmaoaaQk13
import Derived.Deep.Cut
import Derived.Deep.CutRange
import Derived.Deep.CutBlock
set_option linter.unusedVariables false
namespace Go.Proofs.Ytaaohockmpmaoaa
open Go.RowKit

section
variable {W : World}
theorem kNext (p : KW W) (ch ft fs tt ts ph : Int) : Calls Try.prog 12 #[.agg #[.int .i64 ch, .int .i64 ft, .int .i64 fs, .int .i64 tt, .int .i64 ts, .int .i64 ph]] p.V fun e w'' => e = .returned (.agg #[.int .i64 ch, .int .i64 ft, .int .i64 fs, .int .i64 tt, .int .i64 ts, .int .i64 (nxt ph)]) ∧ ∃ q : KW W, w'' = q.V :=
  Calls.kept_of (mvNext ⟨ch, ⟨ft, fs⟩, ⟨tt, ts⟩, ph⟩ p.V)
theorem kStale (p : KW W) (ch ft fs tt ts ph : Int) : Calls Try.prog 13 #[.agg #[.int .i64 ch, .int .i64 ft, .int .i64 fs, .int .i64 tt, .int .i64 ts, .int .i64 ph]] p.V fun e w'' => e = .returned (.agg #[.int .i64 ch, .int .i64 ft, .int .i64 fs, .int .i64 tt, .int .i64 ts, .int .i64 (stl ph)]) ∧ ∃ q : KW W, w'' = q.V :=
  Calls.kept_of (mvStale ⟨ch, ⟨ft, fs⟩, ⟨tt, ts⟩, ph⟩ p.V)
theorem kSteps (p : KW W) (ch ft fs tt ts ph : Int) : Calls Try.prog 14 #[.agg #[.int .i64 ch, .int .i64 ft, .int .i64 fs, .int .i64 tt, .int .i64 ts, .int .i64 ph]] p.V fun e w'' => e = .returned (.int .i64 (stp ph)) ∧ ∃ q : KW W, w'' = q.V :=
  Calls.kept_of (mvSteps ⟨ch, ⟨ft, fs⟩, ⟨tt, ts⟩, ph⟩ p.V)
theorem kBusy (p : KW W) (ch ft fs tt ts ph : Int) : Calls Try.prog 15 #[.agg #[.int .i64 ch, .int .i64 ft, .int .i64 fs, .int .i64 tt, .int .i64 ts, .int .i64 ph]] p.V fun e w'' => e = .returned (.bool (bsy ph)) ∧ ∃ q : KW W, w'' = q.V :=
  Calls.kept_of (mvBusy ⟨ch, ⟨ft, fs⟩, ⟨tt, ts⟩, ph⟩ p.V)
end

set_option maxHeartbeats 2000000 in
set_option maxRecDepth 100000 in
theorem awake17 (w : World) : Calls Try.prog 6 #[] w (BoS w true) := by
  have HM := Lib.hid fun V => mvNew 5 ⟨0, 1⟩ ⟨1, 2⟩ V
  rw [show newM 5 ⟨0, 1⟩ ⟨1, 2⟩ = ⟨5, ⟨0, 1⟩, ⟨1, 2⟩, 1⟩ by decide +kernel, show newE 5 ⟨0, 1⟩ ⟨1, 2⟩ = 0 by decide +kernel] at HM
  have HN := Lib.hid fun V => mvNext ⟨5, ⟨0, 1⟩, ⟨1, 2⟩, 1⟩ V
  have HE := Lib.hid fun V => eqM17 ⟨5, ⟨0, 1⟩, ⟨1, 2⟩, 1⟩ ⟨5, ⟨0, 1⟩, ⟨1, 2⟩, 1⟩ V
  unfold NewS spV at HM
  unfold MvS Mv.next at HN
  rw [show nxt 1 = 2 by decide +kernel] at HN
  unfold mvV at HM HN HE
  unfold BoS
  simp only [decide_true] at HM HN HE
  go_enter Try.func6, Try.ntmps6
  go_wp2_with fail
  refine (HM.out _).mono ?_
  rintro e V1 ⟨rfl, k1⟩
  have b1 := BoxM.new V1 ⟨5, ⟨0, 1⟩, ⟨1, 2⟩, 1⟩
  have kk1 := k1.onM (keptNew V1 (.cells #[.int .i64 5, .int .i64 0, .int .i64 1, .int .i64 1, .int .i64 2, .int .i64 1] 25))
  simp only at b1
  obtain ⟨W, hW⟩ : ∃ W, V1.alloc (.cells #[.int .i64 5, .int .i64 0, .int .i64 1, .int .i64 1, .int .i64 2, .int .i64 1] 25) = W := ⟨_, rfl⟩
  obtain ⟨y, hy⟩ : ∃ y, V1.heap.size = y := ⟨_, rfl⟩
  rw [hW] at b1 kk1
  rw [hy] at b1
  have HK := Lib.hid kk1
  have HB := Lib.hid b1
  have HW := Lib.hid hW
  have HY := Lib.hid hy
  clear b1 kk1 k1 hW hy HM
  go_wp2_with fail
  rw [HW.out]
  simp only [HY.out]
  refine (HN.out _).mono ?_
  rintro e V2 ⟨rfl, k2⟩
  have b2 := HB.out.old k2
  have kk2 := HK.out.onM k2
  have a3 := keptNew V2 (.cells #[.int .i64 5, .int .i64 0, .int .i64 1, .int .i64 1, .int .i64 2, .int .i64 2] 25)
  have b3 := BoxM.new V2 ⟨5, ⟨0, 1⟩, ⟨1, 2⟩, 2⟩
  simp only at b3
  obtain ⟨X, hX⟩ : ∃ X, V2.alloc (.cells #[.int .i64 5, .int .i64 0, .int .i64 1, .int .i64 1, .int .i64 2, .int .i64 2] 25) = X := ⟨_, rfl⟩
  obtain ⟨z, hz⟩ : ∃ z, V2.heap.size = z := ⟨_, rfl⟩
  rw [hX] at a3 b3
  rw [hz] at b3
  replace b2 := b2.old a3
  have HKX := Lib.hid (kk2.onM a3)
  have HX := Lib.hid hX
  have HZ := Lib.hid hz
  clear kk2 a3 hX hz k2 HN HB HK HW HY
  have HB2 := Lib.hid b2
  have HB3 := Lib.hid b3
  clear b2 b3
  go_upto_region 3 with fail
  rw [HX.out]
  simp only [HZ.out]
  have c0 : ∀ p : KW X, p.V.cell? ⟨y, 0, none⟩ = some (.int .i64 5) := fun p => (HB2.out.old p.hk).at.c0
  have c1 : ∀ p : KW X, p.V.cell? ⟨y, 1, none⟩ = some (.int .i64 0) := fun p => (HB2.out.old p.hk).at.c1
  have c2 : ∀ p : KW X, p.V.cell? ⟨y, 2, none⟩ = some (.int .i64 1) := fun p => (HB2.out.old p.hk).at.c2
  have c3 : ∀ p : KW X, p.V.cell? ⟨y, 3, none⟩ = some (.int .i64 1) := fun p => (HB2.out.old p.hk).at.c3
  have c4 : ∀ p : KW X, p.V.cell? ⟨y, 4, none⟩ = some (.int .i64 2) := fun p => (HB2.out.old p.hk).at.c4
  have c5 : ∀ p : KW X, p.V.cell? ⟨y, 5, none⟩ = some (.int .i64 1) := fun p => (HB2.out.old p.hk).at.c5
  have d0 : ∀ p : KW X, p.V.cell? ⟨z, 0, none⟩ = some (.int .i64 5) := fun p => (HB3.out.old p.hk).at.c0
  have d1 : ∀ p : KW X, p.V.cell? ⟨z, 1, none⟩ = some (.int .i64 0) := fun p => (HB3.out.old p.hk).at.c1
  have d2 : ∀ p : KW X, p.V.cell? ⟨z, 2, none⟩ = some (.int .i64 1) := fun p => (HB3.out.old p.hk).at.c2
  have d3 : ∀ p : KW X, p.V.cell? ⟨z, 3, none⟩ = some (.int .i64 1) := fun p => (HB3.out.old p.hk).at.c3
  have d4 : ∀ p : KW X, p.V.cell? ⟨z, 4, none⟩ = some (.int .i64 2) := fun p => (HB3.out.old p.hk).at.c4
  have d5 : ∀ p : KW X, p.V.cell? ⟨z, 5, none⟩ = some (.int .i64 2) := fun p => (HB3.out.old p.hk).at.c5
  have e1 : stp 1 = 3 := by decide +kernel
  have e2 : stl 2 = 1 := by decide +kernel
  have e3 : bsy 1 = true := by decide +kernel
  have e4 : nxt 2 = 3 := by decide +kernel
  have e5 : nxt 3 = 4 := by decide +kernel
  have e6 : stp 4 = 0 := by decide +kernel
  have q1 := HE.out
  refine wp_region_quiet_kept (by kernel_rfl) (by kernel_rfl) ?_
  repeat (go_big_quiet_step (first | (go_at_call 12; exact kNext _ _ _ _ _ _ _) | (go_at_call 13; exact kStale _ _ _ _ _ _ _) | (go_at_call 14; exact kSteps _ _ _ _ _ _ _) | (go_at_call 15; exact kBusy _ _ _ _ _ _ _)))
  refine wpQuiet_nil ?_
  intro V9 hw'
  obtain ⟨⟨V8, hV⟩, hw''⟩ := hw'
  subst hw''
  clear c0 c1 c2 c3 c4 c5 d0 d1 d2 d3 d4 d5
  go_wp2_with fail
  go_ret
  exact ⟨by simp, HKX.out.onM hV⟩

end Go.Proofs.Ytaaohockmpmaoaa
