/- Layer 14: '==' of places; awake. -/
import Derived.Test.YtdbanlifneomgaaPh14
import Derived.Test.YtdbanlifneomgaaPi14
set_option linter.unusedVariables false
namespace Go.Proofs.Ytdbanlifneomgaa
open Go.RowKit

theorem eqInSpD (d : Nat) (a1 a2 b1 b2 : Int) (w : World) : (Op.equalIn (d + 2) 45 (.agg #[.int .i64 a1, .int .i64 a2]) (.agg #[.int .i64 b1, .int .i64 b2])).run Try.prog w = .ok (decide (a1 = b1) && decide (a2 = b2)) w := by
  have u3 := Try.underlying3
  have hS : Try.prog.underlying 45 = some (.struct (Try.prog.fieldsOf 45)) := by kernel_rfl
  have hp : Try.prog.stoodInHeld 45 = false := by kernel_rfl
  rw [run_equalIn_agg w (d + 1) 45 _ _ hS hp]
  simp only [Program.fieldsOf, Try.underlying45]
  go_simp
  by_cases h1 : a1 = b1 <;> by_cases h2 : a2 = b2 <;> simp [h1, h2]

/-- '==' of them. -/
theorem eqPl (a b : Pla) (w : World) : (binOp .eql 47 (plaV a) (plaV b)).run Try.prog w = .ok (.bool (decide (a = b))) w := by
  have u3 := Try.underlying3
  have hS : Try.prog.underlying 47 = some (.struct (Try.prog.fieldsOf 47)) := by kernel_rfl
  have hp : Try.prog.stoodInHeld 47 = false := by kernel_rfl
  have hd : decide (a = b) = (decide (a.ch = b.ch) && (decide (a.tier = b.tier) && decide (a.slot = b.slot))) := by
    rw [← Bool.decide_and, ← Bool.decide_and]
    exact decide_eq_decide.2 (by
      obtain ⟨a1, a2, a3⟩ := a
      obtain ⟨b1, b2, b3⟩ := b
      simp)
  rw [hd]
  simp only [plaV]
  rw [run_eql_struct, show (10000 : Nat) = 9999 + 1 from rfl, run_equalIn_agg w 9999 47 _ _ hS hp]
  simp only [Program.fieldsOf, Try.underlying47]
  have hin := fun w => eqInSpD 9997 a.tier a.slot b.tier b.slot w
  simp only [show (9997 : Nat) + 2 = 9999 from rfl] at hin
  simp only [Op.eqFields]
  go_simp
  by_cases h1 : a.ch = b.ch <;> by_cases h2 : a.tier = b.tier <;> by_cases h3 : a.slot = b.slot <;> simp [h1, h2, h3]
theorem neqPl (a b : Pla) (w : World) : (binOp .neq 47 (plaV a) (plaV b)).run Try.prog w = .ok (.bool (!decide (a = b))) w := by
  have h := eqPl a b w
  simp only [plaV] at h ⊢
  rw [run_eql_struct] at h
  rw [run_neq_struct]
  cases hq : (Op.equalIn 10000 47 (.agg #[.int .i64 a.ch, .int .i64 a.tier, .int .i64 a.slot]) (.agg #[.int .i64 b.ch, .int .i64 b.tier, .int .i64 b.slot])).run Try.prog w with
  | ok x w' =>
    rw [hq] at h
    simp only [Result.andThen_ok, Result.ok.injEq, Value.bool.injEq] at h
    rw [h.1, h.2]
    rfl
  | _ => rw [hq] at h; simp [Result.andThen] at h

def pla5 : Pla := ⟨5, 1, 2⟩
theorem good5 : GoodP pla5 := by decide
theorem key5 : keyP pla5 = 8589934597 := rfl
theorem val5 : valP pla5 = 513 := rfl
theorem badP0 : ¬ GoodP pla0 := by decide
theorem isLs_one (W : World) (x : Pla) : IsLs (W.alloc (.cells #[.int .i64 x.ch, .int .i64 x.tier, .int .i64 x.slot] 47)) (some ⟨W.heap.size, 0, none⟩) [x] := by
  refine ⟨by unfold maxLen; simp, fun _ => ⟨_, _, rfl, by simp, fun i hi => ?_⟩⟩
  obtain rfl : i = 0 := by simpa using hi
  have h := BoxPl.new W x
  exact ⟨h.c0, h.c1, h.c2⟩

set_option maxHeartbeats 1000000 in
theorem awake14 (w : World) : Calls Try.prog 11 #[] w fun e w' => e = .returned (.bool true) ∧ KeptIn (· < w.heap.size) w w' := by
  have HP := Lib.hid fun W => plPair pla5 W
  have HP0 := Lib.hid fun W => plPair pla0 W
  have HR := Lib.hid fun W => plRead 8589934597 513 (by decide) (by decide) W
  unfold PairP at HP HP0
  rw [if_pos good5, key5, val5] at HP
  rw [if_neg badP0] at HP0
  rw [← key5, ← val5, readPl_pair good5, key5, val5] at HR
  unfold ReadP at HR
  simp only [Option.getD_some, Option.isSome_some] at HR
  simp only [plaV, pairV, pla5, pla0] at HP HP0 HR
  have HE := Lib.hid fun W => eqPl pla5 pla5 W
  simp only [plaV, pla5, decide_true] at HE
  go_enter Try.func11, Try.ntmps11
  go_wp2_with fail
  refine (HP.out _).mono ?_
  rintro e V1 ⟨rfl, k1⟩
  have y1 : BoxPl w.heap.size pla5 V1 := (BoxPl.new w pla5).kept k1 (BoxPl.new w pla5).lt
  have HK1 : Hid (KeptIn (· < w.heap.size) w V1) := Lib.hid (((KeptIn.refl _ w).alloc (fun _ h => h) _).go k1)
  clear k1
  have HY1 := Lib.hid y1
  clear y1
  go_wp2_with fail
  refine (HR.out _).mono ?_
  rintro e V2 ⟨rfl, k2⟩
  have y2 : BoxPl w.heap.size pla5 V2 := HY1.out.kept (((KeptIn.refl _ V1).alloc (fun _ h => h) _).go k2) HY1.out.lt
  have p2 : BoxP V1.heap.size 8589934597 513 V2 := (BoxP.new V1 8589934597 513).kept k2 (BoxP.new V1 8589934597 513).lt
  have HK2 : Hid (KeptIn (· < w.heap.size) w V2) := Lib.hid (HK1.out.go (((KeptIn.refl _ V1).alloc (fun _ h => h) _).go k2))
  have HY2 := Lib.hid (And.intro y2 p2)
  clear k2 y2 p2
  go_wp2_with fail
  refine (HP0.out _).mono ?_
  rintro e V3 ⟨rfl, k3⟩
  obtain ⟨V4, hV4⟩ : ∃ V4, V3.alloc (.cells #[.int .u64 0, .int .u64 0] 50) = V4 := ⟨_, rfl⟩
  have a3 : KeptIn (· < V3.heap.size) V3 V4 := by rw [← hV4]; exact (KeptIn.refl _ V3).alloc (fun _ h => h) _
  have y3 := (HY2.out.1.kept (((KeptIn.refl _ V2).alloc (fun _ h => h) _).go k3) HY2.out.1.lt)
  have p3 := (HY2.out.2.kept (((KeptIn.refl _ V2).alloc (fun _ h => h) _).go k3) HY2.out.2.lt)
  have r3 : BoxPl V2.heap.size pla5 V3 := (BoxPl.new V2 pla5).kept k3 (BoxPl.new V2 pla5).lt
  have HK3 : Hid (KeptIn (· < w.heap.size) w V4) := Lib.hid ((HK2.out.go (((KeptIn.refl _ V2).alloc (fun _ h => h) _).go k3)).go a3)
  have y4 := y3.kept a3 y3.lt
  have p4 := p3.kept a3 p3.lt
  have r4 := r3.kept a3 r3.lt
  have HY4 := Lib.hid y4
  have c0 := y4.c0
  have c1 := y4.c1
  have c2 := y4.c2
  have d0 := r4.c0
  have d1 := r4.c1
  have d2 := r4.c2
  have e0 := p4.c0
  have e1 := p4.c1
  have HV4 := Lib.hid hV4
  clear y3 p3 r3 y4 p4 r4 a3 k3 hV4
  unfold pla5 at c0 c1 c2 d0 d1 d2
  simp only at c0 c1 c2 d0 d1 d2
  have q1 := HE.out
  go_upto_region 5 with fail
  rw [HV4.out]
  go_wp2_with fail
  refine (plGood _ 1 1 [pla5] 1 3 _ (isLs_one V4 pla5) rfl (by decide)).mono ?_
  rw [show okL [pla5] 1 3 = true by decide]
  rintro e V5 ⟨rfl, k5⟩
  have y5 := HY4.out.kept (((KeptIn.refl _ V4).alloc (fun _ h => h) _).go k5) HY4.out.lt
  have HK5 : Hid (KeptIn (· < w.heap.size) w V5) := Lib.hid (HK3.out.go (((KeptIn.refl _ V4).alloc (fun _ h => h) _).go k5))
  clear c0 c1 c2 d0 d1 d2 e0 e1 k5 q1
  have c0 := y5.c0
  have c1 := y5.c1
  have c2 := y5.c2
  unfold pla5 at c0 c1 c2
  simp only at c0 c1 c2
  clear y5
  go_wp2_with fail
  refine (plGood _ 1 1 [pla5] 9 2 _ (isLs_one V5 pla5) rfl (by decide)).mono ?_
  rw [show okL [pla5] 9 2 = false by decide]
  rintro e V6 ⟨rfl, k6⟩
  go_wp2_with fail
  go_ret
  exact ⟨rfl, HK5.out.go (((KeptIn.refl _ V5).alloc (fun _ h => h) _).go k6)⟩

end Go.Proofs.Ytdbanlifneomgaa
