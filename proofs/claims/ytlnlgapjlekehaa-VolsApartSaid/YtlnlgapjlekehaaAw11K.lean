import Derived.Test.YtlnlgapjlekehaaJ3
/- Layer 11: awake. -/
set_option linter.unusedVariables false
namespace Go.Proofs.Ytlnlgapjlekehaa
open Go.RowKit

def vol3 : Vol := ⟨3, 5, 0, false, 0⟩
theorem good3 : GoodV vol3 := by decide
theorem key3 : keyV vol3 = 4294967299 := rfl
theorem val3 : valV vol3 = 327680 := rfl
theorem bad0 : ¬ GoodV vol0 := by decide

set_option maxHeartbeats 1000000 in
theorem awake11 (w : World) : Calls Try.prog 20 #[] w fun e w' => e = .returned (.bool true) ∧ KeptIn (· < w.heap.size) w w' := by
  have HP := Lib.hid fun W => vsPair vol3 W
  have HP0 := Lib.hid fun W => vsPair vol0 W
  have HG := Lib.hid fun W => vsGood vol3 W
  have HR := Lib.hid fun W => vsRead 4294967299 327680 (by decide) (by decide) W
  unfold PairS at HP HP0
  rw [if_pos good3, key3, val3] at HP
  rw [if_neg bad0] at HP0
  rw [decide_eq_true good3] at HG
  rw [← key3, ← val3, readVol_pair good3, key3, val3] at HR
  unfold ReadS at HR
  simp only [Option.getD_some, Option.isSome_some] at HR
  simp only [volV, pairV, vol3, vol0] at HP HP0 HG HR
  go_enter Try.func20, Try.ntmps20
  go_wp2_with fail
  refine (HP.out _).mono ?_
  rintro e V1 ⟨rfl, k1⟩
  have y1 : BoxV w.heap.size vol3 V1 := (BoxV.new w vol3).kept k1 (BoxV.new w vol3).lt
  have HK1 : Hid (KeptIn (· < w.heap.size) w V1) := Lib.hid (((KeptIn.refl _ w).alloc (fun _ h => h) _).go k1)
  clear k1
  have HY1 := Lib.hid y1
  clear y1
  go_wp2_with fail
  refine (HR.out _).mono ?_
  rintro e V2 ⟨rfl, k2⟩
  have y2 : BoxV w.heap.size vol3 V2 := HY1.out.kept (((KeptIn.refl _ V1).alloc (fun _ h => h) _).go k2) HY1.out.lt
  have p2 : BoxP V1.heap.size 4294967299 327680 V2 := (BoxP.new V1 4294967299 327680).kept k2 (BoxP.new V1 4294967299 327680).lt
  have HK2 : Hid (KeptIn (· < w.heap.size) w V2) := Lib.hid (HK1.out.go (((KeptIn.refl _ V1).alloc (fun _ h => h) _).go k2))
  have HY2 := Lib.hid (And.intro y2 p2)
  clear k2 y2 p2
  go_wp2_with fail
  refine (HP0.out _).mono ?_
  rintro e V3 ⟨rfl, k3⟩
  have a3 := ((KeptIn.refl _ V3).alloc (fun _ h => h) (.cells #[.int .u64 0, .int .u64 0] 38) : KeptIn (· < V3.heap.size) V3 _)
  have y3 := (HY2.out.1.kept (((KeptIn.refl _ V2).alloc (fun _ h => h) _).go k3) HY2.out.1.lt)
  have p3 := (HY2.out.2.kept (((KeptIn.refl _ V2).alloc (fun _ h => h) _).go k3) HY2.out.2.lt)
  have r3 : BoxV V2.heap.size vol3 V3 := (BoxV.new V2 vol3).kept k3 (BoxV.new V2 vol3).lt
  have HK3 : Hid (KeptIn (· < w.heap.size) w (V3.alloc (.cells #[.int .u64 0, .int .u64 0] 38))) := Lib.hid ((HK2.out.go (((KeptIn.refl _ V2).alloc (fun _ h => h) _).go k3)).alloc (fun _ h => h) _)
  have y4 := y3.kept a3 y3.lt
  have p4 := p3.kept a3 p3.lt
  have r4 := r3.kept a3 r3.lt
  have c0 := y4.c0
  have c1 := y4.c1
  have c2 := y4.c2
  have c3 := y4.c3
  have c4 := y4.c4
  have d0 := r4.c0
  have d1 := r4.c1
  have d2 := r4.c2
  have d3 := r4.c3
  have d4 := r4.c4
  have e0 := p4.c0
  have e1 := p4.c1
  clear y3 p3 r3 y4 p4 r4 a3 k3
  unfold vol3 at c0 c1 c2 c3 c4 d0 d1 d2 d3 d4
  simp only at c0 c1 c2 c3 c4 d0 d1 d2 d3 d4
  go_wp2_with (go_at_call 22; refine (HG.out _).mono ?_; rintro e V4 ⟨rfl, k4⟩)
  go_ret
  exact ⟨rfl, HK3.out.go k4⟩

end Go.Proofs.Ytlnlgapjlekehaa
