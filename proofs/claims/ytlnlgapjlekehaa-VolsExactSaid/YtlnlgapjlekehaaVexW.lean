/- VolsExact of layer 11: the walk: it returns true for every input and writes nothing that was there. -/
import Derived.Test.YtlnlgapjlekehaaAw11
set_option linter.unusedVariables false
namespace Go.Proofs.Ytlnlgapjlekehaa
open Go.RowKit

/-- The law's two boxes. -/
def Ex11 (w : World) (v : Vol) (k x : Nat) (W : World) : Prop := BoxV w.heap.size v W ∧ BoxP (w.heap.size + 1) k x W ∧ KeptIn (· < w.heap.size) w W
theorem Ex11.old {w W W' : World} {v : Vol} {k x : Nat} (h : Ex11 w v k x W) (hk : KeptIn (· < W.heap.size) W W') : Ex11 w v k x W' :=
  ⟨h.1.kept hk h.1.lt, h.2.1.kept hk h.2.1.lt, h.2.2.go hk⟩
theorem ex11_start (w : World) (v : Vol) (k x : Nat) : Ex11 w v k x ((w.alloc (.cells #[.int .i64 v.id, .int .i64 v.size, .int .i64 v.root, .bool v.pin, .int .i64 v.frm] 60)).alloc (.cells #[.int .u64 (k : Int), .int .u64 (x : Int)] 38)) := by
  have h1 := BoxV.new w v
  obtain ⟨W1, hW1⟩ : ∃ W1, w.alloc (.cells #[.int .i64 v.id, .int .i64 v.size, .int .i64 v.root, .bool v.pin, .int .i64 v.frm] 60) = W1 := ⟨_, rfl⟩
  have hk1 : KeptIn (· < w.heap.size) w W1 := by rw [← hW1]; exact (KeptIn.refl _ w).alloc (fun _ h => h) _
  have hs : W1.heap.size = w.heap.size + 1 := by rw [← hW1]; simp
  rw [hW1] at h1 ⊢
  have h2 := BoxP.new W1 k x
  rw [hs] at h2
  have hk2 : KeptIn (· < W1.heap.size) W1 (W1.alloc (.cells #[.int .u64 (k : Int), .int .u64 (x : Int)] 38)) := (KeptIn.refl _ W1).alloc (fun _ h => h) _
  exact ⟨h1.kept hk2 h1.lt, h2, hk1.go hk2⟩
theorem Ex11.facts {w W : World} {k x : Nat} {id size root frm : Int} {pin : Bool} (h : Ex11 w ⟨id, size, root, pin, frm⟩ k x W) :
    W.cell? ⟨w.heap.size, 0, none⟩ = some (.int .i64 id) ∧ W.cell? ⟨w.heap.size, 1, none⟩ = some (.int .i64 size) ∧ W.cell? ⟨w.heap.size, 2, none⟩ = some (.int .i64 root) ∧ W.cell? ⟨w.heap.size, 3, none⟩ = some (.bool pin) ∧ W.cell? ⟨w.heap.size, 4, none⟩ = some (.int .i64 frm) :=
  ⟨h.1.c0, h.1.c1, h.1.c2, h.1.c3, h.1.c4⟩



set_option maxHeartbeats 4000000 in
set_option maxRecDepth 100000 in
theorem volexW (id size root : Int) (pin : Bool) (frm : Int) (k x : Nat) (w : World) (_ : True) (hkx : k < 18446744073709551616 ∧ x < 18446744073709551616) :
    Calls Try.prog 4 #[volV ⟨id, size, root, pin, frm⟩, pairV (k, x)] w fun e w' => e = .returned (.bool true) ∧ KeptIn (· < w.heap.size) w w' := by
  have HX := Lib.hid (ex11_start w ⟨id, size, root, pin, frm⟩ k x)
  have HA := Lib.hid fun W => awake11 W
  have HP := Lib.hid fun W => vsPair ⟨id, size, root, pin, frm⟩ W
  have HG := Lib.hid fun W => vsGood ⟨id, size, root, pin, frm⟩ W
  have HG2 := Lib.hid fun W => r11Good ⟨id, size, root, pin, frm⟩ W
  have HR := Lib.hid fun W => vsRead k x hkx.1 hkx.2 W
  have HR2 := Lib.hid fun W => r11Read k x hkx.1 hkx.2 W
  obtain ⟨o, ho⟩ : ∃ o, readVol k x = o := ⟨_, rfl⟩
  rw [ho] at HR HR2
  unfold PairS at HP
  unfold ReadS at HR HR2
  unfold volV pairV
  simp only at HX ⊢
  unfold pairV at HR HR2
  obtain ⟨⟨i2, s2, r2, p2, f2⟩, hu⟩ : ∃ u, o.getD vol0 = u := ⟨_, rfl⟩
  obtain ⟨ob, hob⟩ : ∃ ob, o.isSome = ob := ⟨_, rfl⟩
  rw [hu, hob] at HR HR2
  unfold volV at HR HR2
  simp only at HR HR2
  clear hu hob
  have HFA := Lib.hid fun (W : World) (h : Ex11 w ⟨id, size, root, pin, frm⟩ k x W) => h.facts
  clear ho hkx
  by_cases hg : GoodV ⟨id, size, root, pin, frm⟩
  · have HRQ := Lib.hid fun W => vsRead (keyV ⟨id, size, root, pin, frm⟩) (valV ⟨id, size, root, pin, frm⟩) (by
      obtain ⟨a, b, c, d, hv, ha1, ha, hb, hc, hd⟩ := good_nats hg
      have := (pair_num a b c d pin).1
      rw [hv]
      simp only
      omega) (by
      obtain ⟨a, b, c, d, hv, ha1, ha, hb, hc, hd⟩ := good_nats hg
      have := (pair_num a b c d pin).2
      rw [hv]
      simp only
      split at this <;> omega) W
    have HP2 := Lib.hid fun W => r11Pair ⟨id, size, root, pin, frm⟩ hg W
    rw [readVol_pair hg] at HRQ
    rw [if_pos hg] at HP
    rw [decide_eq_true hg] at HG HG2
    obtain ⟨K, hK⟩ : ∃ K, keyV ⟨id, size, root, pin, frm⟩ = K := ⟨_, rfl⟩
    obtain ⟨X, hX⟩ : ∃ X, valV ⟨id, size, root, pin, frm⟩ = X := ⟨_, rfl⟩
    rw [hK, hX] at HP HRQ HP2
    unfold ReadS at HRQ
    simp only [Option.getD_some, Option.isSome_some] at HRQ
    unfold pairV at HP HRQ HP2
    unfold volV at HP HG HG2 HRQ HP2
    simp only at HP HG HG2 HRQ HP2
    clear hg hK hX
    go_enter Try.func4, Try.ntmps4
    go_wp2_with fail
    refine (HA.out _).mono ?_
    rintro e V1 ⟨rfl, k1⟩
    have HX1 := Lib.hid (HX.out.old k1)
    obtain ⟨c0, c1, c2, c3, c4⟩ := HFA.out _ HX1.out
    clear HX k1
    go_wp2_with fail
    refine (HP.out _).mono ?_
    rintro e V2 ⟨rfl, k2⟩
    have HX2 := Lib.hid (HX1.out.old k2)
    clear HX1 k2 c0 c1 c2 c3 c4
    obtain ⟨W4, hW4⟩ : ∃ W4, V2.alloc (.cells #[.int .u64 K, .int .u64 X] 38) = W4 := ⟨_, rfl⟩
    have a4 : KeptIn (· < V2.heap.size) V2 W4 := by rw [← hW4]; exact (KeptIn.refl _ V2).alloc (fun _ h => h) _
    have hq4 : BoxP V2.heap.size K X W4 := by rw [← hW4]; exact BoxP.new V2 K X
    obtain ⟨q, hq⟩ : ∃ q, V2.heap.size = q := ⟨_, rfl⟩
    rw [hq] at hq4
    have HX4 := Lib.hid (And.intro (HX2.out.old a4) hq4)
    have HW4 := Lib.hid hW4
    have HQE := Lib.hid hq
    obtain ⟨c0, c1, c2, c3, c4⟩ := HFA.out _ HX4.out.1
    clear HX2 a4 hq4 hW4 hq
    go_wp2_with fail
    rw [HW4.out]
    simp only [HQE.out]
    go_region_held3 (fun w' => w'.cell? ⟨w.heap.size, 0, none⟩ = some (.int .i64 id) ∧ w'.cell? ⟨w.heap.size, 1, none⟩ = some (.int .i64 size) ∧ w'.cell? ⟨w.heap.size, 2, none⟩ = some (.int .i64 root) ∧ w'.cell? ⟨w.heap.size, 3, none⟩ = some (.bool pin) ∧ w'.cell? ⟨w.heap.size, 4, none⟩ = some (.int .i64 frm))
      (first | exact ⟨c0, c1, c2, c3, c4⟩ | exact HFA.out _ (HX4.out.1.old (KeptIn.refl _ _).drew) | exact HFA.out _ (HX4.out.1.old ((KeptIn.refl _ _).drew.go k5)) | exact HFA.out _ (HX4.out.1.old (((KeptIn.refl _ _).drew.go k5).go k6)))
      (first | (go_at_call 22; refine (HG.out _).mono ?_; rintro e V5 ⟨rfl, k5⟩) | (go_at_call 23; refine (HG2.out _).mono ?_; rintro e V6 ⟨rfl, k6⟩))
    have k46 := ((KeptIn.refl (· < W4.heap.size) W4).drew.go k5).go k6
    have HX6 := Lib.hid (And.intro (HX4.out.1.old k46) (HX4.out.2.kept k46 HX4.out.2.lt))
    clear HX4 k46 k5 k6 c0 c1 c2 c3 c4
    obtain ⟨c0, c1, c2, c3, c4⟩ := HFA.out _ HX6.out.1
    -- region 6
    go_wp2_with fail
    refine (HG2.out _).mono ?_
    rintro e V7 ⟨rfl, k7⟩
    have HX7 := Lib.hid (And.intro (HX6.out.1.old k7) (HX6.out.2.kept k7 HX6.out.2.lt))
    obtain ⟨c0, c1, c2, c3, c4⟩ := HFA.out _ HX7.out.1
    have q0 := HX7.out.2.c0
    have q1 := HX7.out.2.c1
    clear HX6 k7
    go_wp2_with fail
    refine (HRQ.out _).mono ?_
    rintro e V8 ⟨rfl, k8⟩
    obtain ⟨W8, hW8⟩ : ∃ W8, V8.alloc (.cells #[.int .i64 id, .int .i64 size, .int .i64 root, .bool pin, .int .i64 frm] 60) = W8 := ⟨_, rfl⟩
    have a8 : KeptIn (· < V8.heap.size) V8 W8 := by rw [← hW8]; exact (KeptIn.refl _ V8).alloc (fun _ h => h) _
    have r8 : BoxV V8.heap.size ⟨id, size, root, pin, frm⟩ W8 := by rw [← hW8]; exact BoxV.new V8 ⟨id, size, root, pin, frm⟩
    have kk8 := k8.go a8
    obtain ⟨r, hr⟩ : ∃ r, V8.heap.size = r := ⟨_, rfl⟩
    rw [hr] at r8
    have HX8 := Lib.hid (And.intro (HX7.out.1.old kk8) (And.intro (HX7.out.2.kept kk8 HX7.out.2.lt) r8))
    have HW8 := Lib.hid hW8
    have HR8 := Lib.hid hr
    clear HX7 k8 c0 c1 c2 c3 c4 q0 q1 a8 r8 kk8 hW8 hr
    go_wp2_with fail
    rw [HW8.out]
    simp only [HR8.out]
    have HF8 := Lib.hid fun (V : World) (h : Ex11 w ⟨id, size, root, pin, frm⟩ k x V ∧ BoxP q K X V ∧ BoxV r ⟨id, size, root, pin, frm⟩ V) => And.intro h.1.1.c0 (And.intro h.1.1.c1 (And.intro h.1.1.c2 (And.intro h.1.1.c3 (And.intro h.1.1.c4 (And.intro h.2.1.c0 (And.intro h.2.1.c1 (And.intro h.2.2.c0 (And.intro h.2.2.c1 (And.intro h.2.2.c2 (And.intro h.2.2.c3 h.2.2.c4))))))))))
    have HO8 := Lib.hid fun (V : World) (hk : KeptIn (· < W8.heap.size) W8 V) => And.intro (HX8.out.1.old hk) (And.intro (HX8.out.2.1.kept hk HX8.out.2.1.lt) (HX8.out.2.2.kept hk HX8.out.2.2.lt))
    simp only at HF8
    go_region_held3 (fun w' => w'.cell? ⟨w.heap.size, 0, none⟩ = some (.int .i64 id) ∧ w'.cell? ⟨w.heap.size, 1, none⟩ = some (.int .i64 size) ∧ w'.cell? ⟨w.heap.size, 2, none⟩ = some (.int .i64 root) ∧ w'.cell? ⟨w.heap.size, 3, none⟩ = some (.bool pin) ∧ w'.cell? ⟨w.heap.size, 4, none⟩ = some (.int .i64 frm) ∧ w'.cell? ⟨q, 0, none⟩ = some (.int .u64 (K : Int)) ∧ w'.cell? ⟨q, 1, none⟩ = some (.int .u64 (X : Int)) ∧ w'.cell? ⟨r, 0, none⟩ = some (.int .i64 id) ∧ w'.cell? ⟨r, 1, none⟩ = some (.int .i64 size) ∧ w'.cell? ⟨r, 2, none⟩ = some (.int .i64 root) ∧ w'.cell? ⟨r, 3, none⟩ = some (.bool pin) ∧ w'.cell? ⟨r, 4, none⟩ = some (.int .i64 frm))
      (first | exact HF8.out _ (HO8.out _ (KeptIn.refl _ _)) | exact HF8.out _ (HO8.out _ (KeptIn.refl _ _).drew) | exact HF8.out _ (HO8.out _ ((KeptIn.refl _ _).drew.go k9)))
      (first | (go_at_call 25; refine (HP2.out _).mono ?_; rintro e V9 ⟨rfl, k9⟩))
    have HXE := Lib.hid (HO8.out _ ((KeptIn.refl _ _).drew.go k9)).1
    clear HX8 HO8 HF8 k9
    have y0 := HXE.out.2.1.c0
    have y1 := HXE.out.2.1.c1
    go_wp2_with fail
    refine (HR.out _).mono ?_
    rintro e V11 ⟨rfl, k11⟩
    have a11 : KeptIn (· < V11.heap.size) V11 (V11.alloc (.cells #[.int .i64 i2, .int .i64 s2, .int .i64 r2, .bool p2, .int .i64 f2] 60)) := (KeptIn.refl _ V11).alloc (fun _ h => h) _
    have b11 := BoxV.new V11 ⟨i2, s2, r2, p2, f2⟩
    have kk11 := k11.go a11
    have HX11 := Lib.hid (And.intro (HXE.out.old kk11) b11)
    clear HXE k11 y0 y1 a11 b11 kk11
    have y0 := HX11.out.1.2.1.c0
    have y1 := HX11.out.1.2.1.c1
    go_wp2_with fail
    refine (HR2.out _).mono ?_
    rintro e V12 ⟨rfl, k12⟩
    have a12 : KeptIn (· < V12.heap.size) V12 (V12.alloc (.cells #[.int .i64 i2, .int .i64 s2, .int .i64 r2, .bool p2, .int .i64 f2] 60)) := (KeptIn.refl _ V12).alloc (fun _ h => h) _
    have b12 := BoxV.new V12 ⟨i2, s2, r2, p2, f2⟩
    have kk12 := k12.go a12
    have b13 := HX11.out.2.kept kk12 HX11.out.2.lt
    have HXF := Lib.hid (HX11.out.1.old kk12)
    have d0 := b13.c0
    have d1 := b13.c1
    have d2 := b13.c2
    have d3 := b13.c3
    have d4 := b13.c4
    clear HX11 k12 a12 b12 kk12 b13 y0 y1
    simp only at d0 d1 d2 d3 d4
    go_wp2_with fail
    go_ret
    exact ⟨rfl, HXF.out.2.2⟩
  · rw [if_neg hg] at HP
    rw [decide_eq_false hg] at HG HG2
    unfold pairV at HP
    unfold volV at HP HG HG2
    simp only at HP HG HG2
    clear hg
    go_enter Try.func4, Try.ntmps4
    go_wp2_with fail
    refine (HA.out _).mono ?_
    rintro e V1 ⟨rfl, k1⟩
    have HX1 := Lib.hid (HX.out.old k1)
    obtain ⟨c0, c1, c2, c3, c4⟩ := HFA.out _ HX1.out
    clear HX k1
    go_wp2_with fail
    refine (HP.out _).mono ?_
    rintro e V2 ⟨rfl, k2⟩
    have HX2 := Lib.hid (HX1.out.old k2)
    clear HX1 k2 c0 c1 c2 c3 c4
    obtain ⟨W4, hW4⟩ : ∃ W4, V2.alloc (.cells #[.int .u64 0, .int .u64 0] 38) = W4 := ⟨_, rfl⟩
    have a4 : KeptIn (· < V2.heap.size) V2 W4 := by rw [← hW4]; exact (KeptIn.refl _ V2).alloc (fun _ h => h) _
    have hq4 : BoxP V2.heap.size 0 0 W4 := by rw [← hW4]; exact BoxP.new V2 0 0
    obtain ⟨q, hq⟩ : ∃ q, V2.heap.size = q := ⟨_, rfl⟩
    rw [hq] at hq4
    have HX4 := Lib.hid (And.intro (HX2.out.old a4) hq4)
    have HW4 := Lib.hid hW4
    have HQE := Lib.hid hq
    obtain ⟨c0, c1, c2, c3, c4⟩ := HFA.out _ HX4.out.1
    clear HX2 a4 hq4 hW4 hq
    go_wp2_with fail
    rw [HW4.out]
    simp only [HQE.out]
    go_region_held3 (fun w' => w'.cell? ⟨w.heap.size, 0, none⟩ = some (.int .i64 id) ∧ w'.cell? ⟨w.heap.size, 1, none⟩ = some (.int .i64 size) ∧ w'.cell? ⟨w.heap.size, 2, none⟩ = some (.int .i64 root) ∧ w'.cell? ⟨w.heap.size, 3, none⟩ = some (.bool pin) ∧ w'.cell? ⟨w.heap.size, 4, none⟩ = some (.int .i64 frm))
      (first | exact ⟨c0, c1, c2, c3, c4⟩ | exact HFA.out _ (HX4.out.1.old (KeptIn.refl _ _).drew) | exact HFA.out _ (HX4.out.1.old ((KeptIn.refl _ _).drew.go k5)) | exact HFA.out _ (HX4.out.1.old (((KeptIn.refl _ _).drew.go k5).go k6)))
      (first | (go_at_call 22; refine (HG.out _).mono ?_; rintro e V5 ⟨rfl, k5⟩) | (go_at_call 23; refine (HG2.out _).mono ?_; rintro e V6 ⟨rfl, k6⟩))
    have k46 := ((KeptIn.refl (· < W4.heap.size) W4).drew.go k5).go k6
    have HX6 := Lib.hid (And.intro (HX4.out.1.old k46) (HX4.out.2.kept k46 HX4.out.2.lt))
    clear HX4 k46 k5 k6 c0 c1 c2 c3 c4
    obtain ⟨c0, c1, c2, c3, c4⟩ := HFA.out _ HX6.out.1
    -- region 6
    go_wp2_with fail
    refine (HG2.out _).mono ?_
    rintro e V7 ⟨rfl, k7⟩
    have q0 := (HX6.out.2.kept k7 HX6.out.2.lt).c0
    have q1 := (HX6.out.2.kept k7 HX6.out.2.lt).c1
    have HXE := Lib.hid (HX6.out.1.old k7)
    clear HX6 k7 c0 c1 c2 c3 c4
    have y0 := HXE.out.2.1.c0
    have y1 := HXE.out.2.1.c1
    go_wp2_with fail
    refine (HR.out _).mono ?_
    rintro e V11 ⟨rfl, k11⟩
    have a11 : KeptIn (· < V11.heap.size) V11 (V11.alloc (.cells #[.int .i64 i2, .int .i64 s2, .int .i64 r2, .bool p2, .int .i64 f2] 60)) := (KeptIn.refl _ V11).alloc (fun _ h => h) _
    have b11 := BoxV.new V11 ⟨i2, s2, r2, p2, f2⟩
    have kk11 := k11.go a11
    have HX11 := Lib.hid (And.intro (HXE.out.old kk11) b11)
    clear HXE k11 y0 y1 a11 b11 kk11
    have y0 := HX11.out.1.2.1.c0
    have y1 := HX11.out.1.2.1.c1
    go_wp2_with fail
    refine (HR2.out _).mono ?_
    rintro e V12 ⟨rfl, k12⟩
    have a12 : KeptIn (· < V12.heap.size) V12 (V12.alloc (.cells #[.int .i64 i2, .int .i64 s2, .int .i64 r2, .bool p2, .int .i64 f2] 60)) := (KeptIn.refl _ V12).alloc (fun _ h => h) _
    have b12 := BoxV.new V12 ⟨i2, s2, r2, p2, f2⟩
    have kk12 := k12.go a12
    have b13 := HX11.out.2.kept kk12 HX11.out.2.lt
    have HXF := Lib.hid (HX11.out.1.old kk12)
    have d0 := b13.c0
    have d1 := b13.c1
    have d2 := b13.c2
    have d3 := b13.c3
    have d4 := b13.c4
    clear HX11 k12 a12 b12 kk12 b13 y0 y1
    simp only at d0 d1 d2 d3 d4
    go_wp2_with fail
    go_ret
    exact ⟨rfl, HXF.out.2.2⟩

end Go.Proofs.Ytlnlgapjlekehaa
