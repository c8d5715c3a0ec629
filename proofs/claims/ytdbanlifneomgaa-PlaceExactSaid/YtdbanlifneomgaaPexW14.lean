/- PlaceExact of layer 14: the walk: it returns true for every input and writes nothing that was there. -/
import Derived.Test.YtdbanlifneomgaaPk14
set_option linter.unusedVariables false
namespace Go.Proofs.Ytdbanlifneomgaa
open Go.RowKit


set_option maxHeartbeats 4000000 in
set_option maxRecDepth 100000 in
theorem placeExW (ch tier slot : Int) (k v : Nat) (a : Option Addr) (len cap : Nat) (s0 s1 : Int) (w : World) (_ : True) (hkx : k < 18446744073709551616 ∧ v < 18446744073709551616) (hl : IsPls w a len) (_ : True) :
    Calls Try.prog 4 #[plaV ⟨ch, tier, slot⟩, pairV (k, v), .slice a len cap, .agg #[.int .i64 s0, .int .i64 s1]] w fun e w' => e = .returned (.bool true) ∧ KeptIn (· < w.heap.size) w w' := by
  obtain ⟨ps, hpl, hps⟩ := hl
  have HL := Lib.hid (And.intro hps hpl)
  have HX := Lib.hid (ex14_start w ⟨ch, tier, slot⟩ k v s0 s1)
  have HA := Lib.hid fun W => awake14 W
  have HP := Lib.hid fun W => plPair ⟨ch, tier, slot⟩ W
  have HG := Lib.hid fun W => r14Can ⟨ch, tier, slot⟩ W
  have HR := Lib.hid fun W => plRead k v hkx.1 hkx.2 W
  have HR2 := Lib.hid fun W => r14Read k v hkx.1 hkx.2 W
  obtain ⟨o, ho⟩ : ∃ o, readPl k v = o := ⟨_, rfl⟩
  rw [ho] at HR HR2
  unfold PairP at HP
  unfold ReadP at HR
  unfold ReadM at HR2
  obtain ⟨⟨i2, t2, s2⟩, hu⟩ : ∃ u, o.getD pla0 = u := ⟨_, rfl⟩
  obtain ⟨ob, hob⟩ : ∃ ob, o.isSome = ob := ⟨_, rfl⟩
  rw [hu, hob] at HR HR2
  unfold spotV at HG HR2
  unfold plaV pairV at HR
  unfold pairV at HR2
  unfold plaV pairV
  simp only at HX HG HR HR2 ⊢
  have HNE := Lib.hid fun W => neqPl ⟨i2, t2, s2⟩ ⟨i2, t2, s2⟩ W
  simp only [plaV, decide_true, Bool.not_true] at HNE
  clear hu hob ho hkx hps hpl
  by_cases hbig : 20 < len
  · have g1 : (20 : Int) < (len : Int) := by omega
    go_enter Try.func4, Try.ntmps4
    go_wp2_with fail
    refine (HA.out _).mono ?_
    rintro e V1 ⟨rfl, k1⟩
    go_wp2_with fail
    go_ret
    exact ⟨rfl, HX.out.2.2.2.go k1⟩
  have g1 : ¬ (20 : Int) < (len : Int) := by omega
  have g2 : (len : Int) ≤ 20 := by omega
  have g3 : len ≤ 20 := by omega
  clear hbig
  have HFA := Lib.hid fun (W : World) (h : Ex14 w ⟨ch, tier, slot⟩ k v s0 s1 W) => And.intro h.1.c0 (And.intro h.1.c1 h.1.c2)
  simp only at HFA
  by_cases hg : GoodP ⟨ch, tier, slot⟩
  · have HRQ := Lib.hid fun W => plRead (keyP ⟨ch, tier, slot⟩) (valP ⟨ch, tier, slot⟩) (by
      obtain ⟨a, b, c, hv, ha1, ha, hb, hc⟩ := goodP_nats hg
      have := (pla_num a b c).1
      rw [hv]
      omega) (by
      obtain ⟨a, b, c, hv, ha1, ha, hb, hc⟩ := goodP_nats hg
      have := (pla_num a b c).2
      rw [hv]
      omega) W
    have HP2 := Lib.hid fun W => r14Pair ⟨ch, tier, slot⟩ hg W
    rw [readPl_pair hg] at HRQ
    rw [if_pos hg] at HP
    rw [decide_eq_true hg] at HG
    obtain ⟨K, hK⟩ : ∃ K, keyP ⟨ch, tier, slot⟩ = K := ⟨_, rfl⟩
    obtain ⟨X, hX⟩ : ∃ X, valP ⟨ch, tier, slot⟩ = X := ⟨_, rfl⟩
    rw [hK, hX] at HP HRQ HP2
    unfold ReadP at HRQ
    simp only [Option.getD_some, Option.isSome_some] at HRQ
    unfold pairV at HP HRQ HP2
    unfold plaV at HP HRQ
    unfold spotV at HP2
    simp only at HP HRQ HP2
    have HNQ := Lib.hid fun W => neqPl ⟨ch, tier, slot⟩ ⟨ch, tier, slot⟩ W
    simp only [plaV, decide_true, Bool.not_true] at HNQ
    clear hg hK hX
    go_enter Try.func4, Try.ntmps4
    go_wp2_with fail
    refine (HA.out _).mono ?_
    rintro e V1 ⟨rfl, k1⟩
    have HX1 := Lib.hid (HX.out.old k1)
    obtain ⟨c0, c1, c2⟩ := HFA.out _ HX1.out
    clear HX k1
    go_wp2_with fail
    refine (HP.out _).mono ?_
    rintro e V2 ⟨rfl, k2⟩
    obtain ⟨W4, hW4⟩ : ∃ W4, V2.alloc (.cells #[.int .u64 (K : Int), .int .u64 (X : Int)] 50) = W4 := ⟨_, rfl⟩
    have a4 : KeptIn (· < V2.heap.size) V2 W4 := by rw [← hW4]; exact (KeptIn.refl _ V2).alloc (fun _ h => h) _
    have hq4 : BoxP V2.heap.size K X W4 := by rw [← hW4]; exact BoxP.new V2 K X
    obtain ⟨q, hq⟩ : ∃ q, V2.heap.size = q := ⟨_, rfl⟩
    rw [hq] at hq4
    have HX4 := Lib.hid (And.intro ((HX1.out.old k2).old a4) hq4)
    have HW4 := Lib.hid (And.intro hW4 hq)
    clear HX1 k2 c0 c1 c2 a4 hq4 hW4 hq
    obtain ⟨c0, c1, c2⟩ := HFA.out _ HX4.out.1
    go_upto_region 6 with fail
    rw [HW4.out.1]
    simp only [HW4.out.2]
    go_wp2_with fail
    refine (HG.out _).mono ?_
    rintro e V5 ⟨rfl, k5⟩
    have HX5 := Lib.hid (And.intro (HX4.out.1.old k5) (HX4.out.2.kept k5 HX4.out.2.lt))
    have q0 := HX5.out.2.c0
    have q1 := HX5.out.2.c1
    clear HX4 k5 c0 c1 c2
    go_wp2_with fail
    refine (HRQ.out _).mono ?_
    rintro e V7 ⟨rfl, k7⟩
    obtain ⟨W8, hW8⟩ : ∃ W8, V7.alloc (.cells #[.int .i64 ch, .int .i64 tier, .int .i64 slot] 47) = W8 := ⟨_, rfl⟩
    have a8 : KeptIn (· < V7.heap.size) V7 W8 := by rw [← hW8]; exact (KeptIn.refl _ V7).alloc (fun _ h => h) _
    have r8 : BoxPl V7.heap.size ⟨ch, tier, slot⟩ W8 := by rw [← hW8]; exact BoxPl.new V7 ⟨ch, tier, slot⟩
    obtain ⟨r, hr⟩ : ∃ r, V7.heap.size = r := ⟨_, rfl⟩
    have kk8 := k7.go a8
    rw [hr] at r8
    have HX8 := Lib.hid (And.intro (HX5.out.1.old kk8) (And.intro (HX5.out.2.kept kk8 HX5.out.2.lt) r8))
    have HW8 := Lib.hid (And.intro hW8 hr)
    clear HX5 k7 q0 q1 a8 r8 kk8 hW8 hr
    go_upto_region 8 with fail
    rw [HW8.out.1]
    simp only [HW8.out.2]
    have c0 : ∀ p : KW W8, p.V.cell? ⟨w.heap.size, 0, none⟩ = some (.int .i64 ch) := fun p => (HX8.out.1.1.kept p.hk HX8.out.1.1.lt).c0
    have c1 : ∀ p : KW W8, p.V.cell? ⟨w.heap.size, 1, none⟩ = some (.int .i64 tier) := fun p => (HX8.out.1.1.kept p.hk HX8.out.1.1.lt).c1
    have c2 : ∀ p : KW W8, p.V.cell? ⟨w.heap.size, 2, none⟩ = some (.int .i64 slot) := fun p => (HX8.out.1.1.kept p.hk HX8.out.1.1.lt).c2
    have r0 : ∀ p : KW W8, p.V.cell? ⟨r, 0, none⟩ = some (.int .i64 ch) := fun p => (HX8.out.2.2.kept p.hk HX8.out.2.2.lt).c0
    have r1 : ∀ p : KW W8, p.V.cell? ⟨r, 1, none⟩ = some (.int .i64 tier) := fun p => (HX8.out.2.2.kept p.hk HX8.out.2.2.lt).c1
    have r2 : ∀ p : KW W8, p.V.cell? ⟨r, 2, none⟩ = some (.int .i64 slot) := fun p => (HX8.out.2.2.kept p.hk HX8.out.2.2.lt).c2
    have q0 : ∀ p : KW W8, p.V.cell? ⟨q, 0, none⟩ = some (.int .u64 (K : Int)) := fun p => (HX8.out.2.1.kept p.hk HX8.out.2.1.lt).c0
    have q1 : ∀ p : KW W8, p.V.cell? ⟨q, 1, none⟩ = some (.int .u64 (X : Int)) := fun p => (HX8.out.2.1.kept p.hk HX8.out.2.1.lt).c1
    have HC2 := Lib.hid fun (p : KW W8) => HP2.out p.V
    have n8 := HNQ.out
    refine wp_region_quiet_kept (by kernel_rfl) (by kernel_rfl) ?_
    repeat (go_big_quiet_step ((go_at_call 15; exact Calls.kept_of (HC2.out _))))
    refine wpQuiet_nil ?_
    intro V9 hw'
    obtain ⟨⟨V8, hV⟩, hw''⟩ := hw'
    subst hw''
    have HXE := Lib.hid (HX8.out.1.old hV)
    clear c0 c1 c2 r0 r1 r2 q0 q1 n8 HC2 HX8 hV HP2 HRQ HW8 HW4
    have y0 := HXE.out.2.1.c0
    have y1 := HXE.out.2.1.c1
    go_wp2_with fail
    refine (HR.out _).mono ?_
    rintro e V11 ⟨rfl, k11⟩
    have a11 : KeptIn (· < V11.heap.size) V11 (V11.alloc (.cells #[.int .i64 i2, .int .i64 t2, .int .i64 s2] 47)) := (KeptIn.refl _ V11).alloc (fun _ h => h) _
    have b11 := BoxPl.new V11 ⟨i2, t2, s2⟩
    have kk11 := k11.go a11
    have HX11 := Lib.hid (And.intro (HXE.out.old kk11) b11)
    clear HXE k11 y0 y1 a11 b11 kk11
    have y0 := HX11.out.1.2.1.c0
    have y1 := HX11.out.1.2.1.c1
    go_wp2_with fail
    refine (HR2.out _).mono ?_
    rintro e V12 ⟨rfl, k12⟩
    have a12 : KeptIn (· < V12.heap.size) V12 (V12.alloc (.cells #[.int .i64 t2, .int .i64 s2] 45)) := (KeptIn.refl _ V12).alloc (fun _ h => h) _
    have b12 := BoxSp.new V12 t2 s2
    have kk12 := k12.go a12
    have b13 := HX11.out.2.kept kk12 HX11.out.2.lt
    obtain ⟨W13, hW13⟩ : ∃ W13, V12.alloc (.cells #[.int .i64 t2, .int .i64 s2] 45) = W13 := ⟨_, rfl⟩
    rw [hW13] at b12 b13 kk12
    have HXF := Lib.hid (HX11.out.1.old kk12)
    have HW13 := Lib.hid hW13
    have d0 := b13.c0
    have d1 := b13.c1
    have d2 := b13.c2
    have e0 := b12.c0
    have e1 := b12.c1
    clear HX11 k12 a12 b12 kk12 b13 y0 y1 hW13
    simp only at d0 d1 d2
    have n9 := HNE.out
    go_upto_region 14 with fail
    rw [HW13.out]
    go_upto_region 16 with fail
    obtain ⟨B, hB⟩ : ∃ B, W13.heap.size = B := ⟨_, rfl⟩
    obtain ⟨W2, hW2⟩ : ∃ W2, (W13.alloc (.cells #[] 3)).alloc (.cells #[] 45) = W2 := ⟨_, rfl⟩
    have HI0 : Hid (Ge2 W13 B (ps.take 0) (ps.take 0) (.slice (some ⟨B, 0, none⟩) 0 0) (.slice (some ⟨B + 1, 0, none⟩) 0 0) W2) := Lib.hid (ge2_zero W13 B hB W2 hW2.symm)
    have HZ := Lib.hid hB
    have HW2 := Lib.hid hW2
    obtain ⟨ii, hii, hz0, hz1, hz2⟩ := info_parts infoInt14
    obtain ⟨ij, hij, hy0, hy1, hy2⟩ := info_parts infoSpot14
    clear hB hW2 d0 d1 d2 e0 e1 n9
    go_wp2_with fail
    rw [HW2.out]
    simp only [HZ.out]
    go_loopw [18, 19, 20] (fun u v i wr => ∃ (j : Nat) (V : World) (v1 v2 : Value), V = wr ∧ v1 = u ∧ v2 = v ∧ j ≤ len ∧ i = .int .i64 (j : Int) ∧ Hid (Ge2 W13 B (ps.take j) (ps.take j) v1 v2 V)) (fun _ _ i _ => len - (RowKit.intOf i).toNat)
    case atStart => exact ⟨0, _, _, _, rfl, rfl, rfl, Nat.zero_le _, rfl, HI0⟩
    case round =>
      obtain ⟨j, V, v1, v2, rfl, rfl, rfl, hj, rfl, HJ⟩ := hrel
      clear HI0
      have j0 : (0 : Int) ≤ (j : Int) := by omega
      have hkV : KeptIn (· < W13.heap.size) W13 V := HJ.out.kept.mono fun k (hk : k < W13.heap.size) => by rw [HZ.out] at hk; exact hk
      by_cases hlt : j < len
      · have j1 : (j : Int) < (len : Int) := by omega
        have hje : j < ps.length := by rw [HL.out.2]; exact hlt
        obtain ⟨bb, oo, rfl, hbb, hc⟩ := HL.out.1.cells (by omega)
        obtain ⟨c1, c2, c3⟩ := hc j hje
        have hgd : ps.getD j pla0 = ps[j] := by rw [List.getD_eq_getElem?_getD, List.getElem?_eq_getElem hje]; rfl
        rw [← hgd] at c1 c2 c3
        have hkw := HXF.out.2.2.2.go hkV
        have f1 := (World.cell?_of_block (a := ⟨bb, oo + j * 3, none⟩) (hkw.block bb hbb)).trans c1
        have HF : Hid (∀ V', KeptIn (· < W13.heap.size) W13 V' → V'.cell? ⟨bb, oo + j * 3 + 1, none⟩ = some (.int .i64 (ps.getD j pla0).tier) ∧ V'.cell? ⟨bb, oo + j * 3 + 2, none⟩ = some (.int .i64 (ps.getD j pla0).slot)) := Lib.hid fun V' hk =>
          ⟨(World.cell?_of_block (a := ⟨bb, oo + j * 3 + 1, none⟩) ((HXF.out.2.2.2.go hk).block bb hbb)).trans c2, (World.cell?_of_block (a := ⟨bb, oo + j * 3 + 2, none⟩) ((HXF.out.2.2.2.go hk).block bb hbb)).trans c3⟩
        have HSN := Lib.hid (getD_take14 ps j hje)
        have hl1 : (ps.take j).length = j := by rw [List.length_take]; omega
        obtain ⟨x1, hx1⟩ : ∃ x1, ps.getD j pla0 = x1 := ⟨_, rfl⟩
        rw [hx1] at f1 HF HSN
        have HLJ := Lib.hid hl1
        have hr1 := HJ.out.r1
        rw [hl1] at hr1
        have HR1 := Lib.hid hr1
        obtain ⟨q3, q4, q5⟩ := pk_bnd j (by omega)
        have q6 := HJ.out.le
        clear c1 c2 c3 hc hbb hgd hkw hl1 hr1 hx1 hje hkV
        obtain ⟨c1, t1, s1'⟩ := x1
        simp only at f1 HF
        go_upto_region 21 with fail
        go_wp2_with (first
          | (at_builtin; refine wpList_append_own _ rfl _ _ 23 rfl B 3 ii _ 1 8 Try.underlying23 hii hz0 hz1 hz2 rfl (by decide) _ _ _ rfl (HR1.out.alloc _) ⟨V.heap.size, 0, none⟩ 1 1 [.int .i64 c1] rfl rfl (World.news_of_block (cs := #[.int .i64 c1]) (t := 3) (fr := (0, 0)) (heap_alloc_new V _)) (by simp [Value.oneCell']) q3 q4 (by rw [World.size_alloc]; exact Nat.le_succ_of_le q6) ?_; intro v1' V4 hown1 hgrow1 _; have H4 := Lib.hid (HJ.out.push1 (x := ⟨c1, t1, s1'⟩) hgrow1 (by rw [HLJ.out]; exact hown1)); obtain ⟨f2, f3⟩ := HF.out V4 (H4.out.kept.mono fun k (hk : k < W13.heap.size) => by rw [HZ.out] at hk; exact hk); have hr2 := H4.out.r2; rw [HLJ.out] at hr2; have HR2' := Lib.hid hr2; have q7 := H4.out.le; clear hown1 hgrow1 hr2 HJ)
          | (at_builtin; refine wpList_append_own _ rfl _ _ 61 rfl B 45 ij _ 2 16 Try.underlying61 hij hy0 hy1 hy2 rfl (by decide) _ _ _ rfl (HR2'.out.alloc _) ⟨V4.heap.size, 0, none⟩ 1 1 [.int .i64 t1, .int .i64 s1'] rfl rfl (World.news_of_block (cs := #[.int .i64 t1, .int .i64 s1']) (t := 45) (fr := (0, 0)) (heap_alloc_new V4 _)) (by simp [Value.oneCell']) q3 q5 (by rw [World.size_alloc]; exact Nat.le_succ_of_le q7) ?_; intro v2' V5 hown2 hgrow2 _; have H5 := Lib.hid (H4.out.push2 (x := ⟨c1, t1, s1'⟩) hgrow2 (by rw [HLJ.out]; exact hown2)); clear hown2 hgrow2 H4))
        rw [← HSN.out] at H5
        clear HSN HF HLJ HR1 HR2' f1 f2 f3 q3 q4 q5 q6 q7
        go_roundw
        case rel => exact ⟨j + 1, _, _, _, rfl, rfl, rfl, by omega, by go_num, H5⟩
        case measure => simp only [RowKit.intOf]; omega
      · have j1 : ¬ (j : Int) < (len : Int) := by omega
        have hE1 : ps.take j = ps := List.take_of_length_le (by rw [HL.out.2]; omega)
        have hJ := HJ.out
        rw [hE1] at hJ
        obtain ⟨a1, p1, rfl⟩ := row_slice14 hJ.r1
        obtain ⟨a2, p2, rfl⟩ := row_slice14 hJ.r2
        have hcs := hJ.cs
        have hss := hJ.ss
        have HGA := Lib.hid fun (p : KW V) => plGood a len cap ps s0 s1 p.V (HL.out.1.old (HXF.out.2.2.2.go (hkV.go p.hk))) HL.out.2 (by omega)
        have HGB := Lib.hid fun (p : KW V) => r14Good a1 a2 len p1 p2 ps s0 s1 p.V (hcs.old p.hk) (hss.old p.hk) HL.out.2 (by omega)
        have HXV := Lib.hid (HXF.out.old hkV)
        have f0 : ∀ p : KW V, p.V.cell? ⟨w.heap.size + 1 + 1, 0, none⟩ = some (.int .i64 s0) := fun p => (HXV.out.2.2.1.kept p.hk HXV.out.2.2.1.lt).at (b := 0) (Nat.zero_le _)
        have f1 : ∀ p : KW V, p.V.cell? ⟨w.heap.size + 1 + 1, 1, none⟩ = some (.int .i64 s1) := fun p => (HXV.out.2.2.1.kept p.hk HXV.out.2.2.1.lt).at (b := 1) (Nat.le_refl _)
        obtain ⟨G, hG⟩ : ∃ G, okL ps s0 s1 = G := ⟨_, rfl⟩
        rw [hG] at HGA HGB
        rw [HL.out.2]
        clear hJ hE1 hcs hss HJ hkV hii hz0 hz1 hz2 hij hy0 hy1 hy2 hG
        go_wp2_with fail
        refine wp_region_quiet_kept (by kernel_rfl) (by kernel_rfl) ?_
        repeat (go_big_quiet_step ((first | (go_at_call 17; exact Calls.kept_of (HGA.out _)) | (go_at_call 18; exact Calls.kept_of (HGB.out _)))))
        refine wpQuiet_nil ?_
        intro V9 hw'
        obtain ⟨⟨V8, hV⟩, hw''⟩ := hw'
        subst hw''
        clear f0 f1
        go_wp2_with fail
        go_ret
        exact ⟨by simp, HXV.out.2.2.2.go hV⟩
  · rw [if_neg hg] at HP
    rw [decide_eq_false hg] at HG
    unfold plaV pairV at HP
    simp only at HP
    clear hg
    go_enter Try.func4, Try.ntmps4
    go_wp2_with fail
    refine (HA.out _).mono ?_
    rintro e V1 ⟨rfl, k1⟩
    have HX1 := Lib.hid (HX.out.old k1)
    obtain ⟨c0, c1, c2⟩ := HFA.out _ HX1.out
    clear HX k1
    go_wp2_with fail
    refine (HP.out _).mono ?_
    rintro e V2 ⟨rfl, k2⟩
    obtain ⟨W4, hW4⟩ : ∃ W4, V2.alloc (.cells #[.int .u64 0, .int .u64 0] 50) = W4 := ⟨_, rfl⟩
    have a4 : KeptIn (· < V2.heap.size) V2 W4 := by rw [← hW4]; exact (KeptIn.refl _ V2).alloc (fun _ h => h) _
    have hq4 : BoxP V2.heap.size 0 0 W4 := by rw [← hW4]; exact BoxP.new V2 0 0
    obtain ⟨q, hq⟩ : ∃ q, V2.heap.size = q := ⟨_, rfl⟩
    rw [hq] at hq4
    have HX4 := Lib.hid (And.intro ((HX1.out.old k2).old a4) hq4)
    have HW4 := Lib.hid (And.intro hW4 hq)
    clear HX1 k2 c0 c1 c2 a4 hq4 hW4 hq
    obtain ⟨c0, c1, c2⟩ := HFA.out _ HX4.out.1
    go_upto_region 6 with fail
    rw [HW4.out.1]
    simp only [HW4.out.2]
    go_wp2_with fail
    refine (HG.out _).mono ?_
    rintro e V5 ⟨rfl, k5⟩
    have HX5 := Lib.hid (And.intro (HX4.out.1.old k5) (HX4.out.2.kept k5 HX4.out.2.lt))
    have q0 := HX5.out.2.c0
    have q1 := HX5.out.2.c1
    clear HX4 k5 c0 c1 c2
    have HXE := Lib.hid HX5.out.1
    clear HX5
    have y0 := HXE.out.2.1.c0
    have y1 := HXE.out.2.1.c1
    go_wp2_with fail
    refine (HR.out _).mono ?_
    rintro e V11 ⟨rfl, k11⟩
    have a11 : KeptIn (· < V11.heap.size) V11 (V11.alloc (.cells #[.int .i64 i2, .int .i64 t2, .int .i64 s2] 47)) := (KeptIn.refl _ V11).alloc (fun _ h => h) _
    have b11 := BoxPl.new V11 ⟨i2, t2, s2⟩
    have kk11 := k11.go a11
    have HX11 := Lib.hid (And.intro (HXE.out.old kk11) b11)
    clear HXE k11 y0 y1 a11 b11 kk11
    have y0 := HX11.out.1.2.1.c0
    have y1 := HX11.out.1.2.1.c1
    go_wp2_with fail
    refine (HR2.out _).mono ?_
    rintro e V12 ⟨rfl, k12⟩
    have a12 : KeptIn (· < V12.heap.size) V12 (V12.alloc (.cells #[.int .i64 t2, .int .i64 s2] 45)) := (KeptIn.refl _ V12).alloc (fun _ h => h) _
    have b12 := BoxSp.new V12 t2 s2
    have kk12 := k12.go a12
    have b13 := HX11.out.2.kept kk12 HX11.out.2.lt
    obtain ⟨W13, hW13⟩ : ∃ W13, V12.alloc (.cells #[.int .i64 t2, .int .i64 s2] 45) = W13 := ⟨_, rfl⟩
    rw [hW13] at b12 b13 kk12
    have HXF := Lib.hid (HX11.out.1.old kk12)
    have HW13 := Lib.hid hW13
    have d0 := b13.c0
    have d1 := b13.c1
    have d2 := b13.c2
    have e0 := b12.c0
    have e1 := b12.c1
    clear HX11 k12 a12 b12 kk12 b13 y0 y1 hW13
    simp only at d0 d1 d2
    have n9 := HNE.out
    go_upto_region 14 with fail
    rw [HW13.out]
    go_upto_region 16 with fail
    obtain ⟨B, hB⟩ : ∃ B, W13.heap.size = B := ⟨_, rfl⟩
    obtain ⟨W2, hW2⟩ : ∃ W2, (W13.alloc (.cells #[] 3)).alloc (.cells #[] 45) = W2 := ⟨_, rfl⟩
    have HI0 : Hid (Ge2 W13 B (ps.take 0) (ps.take 0) (.slice (some ⟨B, 0, none⟩) 0 0) (.slice (some ⟨B + 1, 0, none⟩) 0 0) W2) := Lib.hid (ge2_zero W13 B hB W2 hW2.symm)
    have HZ := Lib.hid hB
    have HW2 := Lib.hid hW2
    obtain ⟨ii, hii, hz0, hz1, hz2⟩ := info_parts infoInt14
    obtain ⟨ij, hij, hy0, hy1, hy2⟩ := info_parts infoSpot14
    clear hB hW2 d0 d1 d2 e0 e1 n9
    go_wp2_with fail
    rw [HW2.out]
    simp only [HZ.out]
    go_loopw [18, 19, 20] (fun u v i wr => ∃ (j : Nat) (V : World) (v1 v2 : Value), V = wr ∧ v1 = u ∧ v2 = v ∧ j ≤ len ∧ i = .int .i64 (j : Int) ∧ Hid (Ge2 W13 B (ps.take j) (ps.take j) v1 v2 V)) (fun _ _ i _ => len - (RowKit.intOf i).toNat)
    case atStart => exact ⟨0, _, _, _, rfl, rfl, rfl, Nat.zero_le _, rfl, HI0⟩
    case round =>
      obtain ⟨j, V, v1, v2, rfl, rfl, rfl, hj, rfl, HJ⟩ := hrel
      clear HI0
      have j0 : (0 : Int) ≤ (j : Int) := by omega
      have hkV : KeptIn (· < W13.heap.size) W13 V := HJ.out.kept.mono fun k (hk : k < W13.heap.size) => by rw [HZ.out] at hk; exact hk
      by_cases hlt : j < len
      · have j1 : (j : Int) < (len : Int) := by omega
        have hje : j < ps.length := by rw [HL.out.2]; exact hlt
        obtain ⟨bb, oo, rfl, hbb, hc⟩ := HL.out.1.cells (by omega)
        obtain ⟨c1, c2, c3⟩ := hc j hje
        have hgd : ps.getD j pla0 = ps[j] := by rw [List.getD_eq_getElem?_getD, List.getElem?_eq_getElem hje]; rfl
        rw [← hgd] at c1 c2 c3
        have hkw := HXF.out.2.2.2.go hkV
        have f1 := (World.cell?_of_block (a := ⟨bb, oo + j * 3, none⟩) (hkw.block bb hbb)).trans c1
        have HF : Hid (∀ V', KeptIn (· < W13.heap.size) W13 V' → V'.cell? ⟨bb, oo + j * 3 + 1, none⟩ = some (.int .i64 (ps.getD j pla0).tier) ∧ V'.cell? ⟨bb, oo + j * 3 + 2, none⟩ = some (.int .i64 (ps.getD j pla0).slot)) := Lib.hid fun V' hk =>
          ⟨(World.cell?_of_block (a := ⟨bb, oo + j * 3 + 1, none⟩) ((HXF.out.2.2.2.go hk).block bb hbb)).trans c2, (World.cell?_of_block (a := ⟨bb, oo + j * 3 + 2, none⟩) ((HXF.out.2.2.2.go hk).block bb hbb)).trans c3⟩
        have HSN := Lib.hid (getD_take14 ps j hje)
        have hl1 : (ps.take j).length = j := by rw [List.length_take]; omega
        obtain ⟨x1, hx1⟩ : ∃ x1, ps.getD j pla0 = x1 := ⟨_, rfl⟩
        rw [hx1] at f1 HF HSN
        have HLJ := Lib.hid hl1
        have hr1 := HJ.out.r1
        rw [hl1] at hr1
        have HR1 := Lib.hid hr1
        obtain ⟨q3, q4, q5⟩ := pk_bnd j (by omega)
        have q6 := HJ.out.le
        clear c1 c2 c3 hc hbb hgd hkw hl1 hr1 hx1 hje hkV
        obtain ⟨c1, t1, s1'⟩ := x1
        simp only at f1 HF
        go_upto_region 21 with fail
        go_wp2_with (first
          | (at_builtin; refine wpList_append_own _ rfl _ _ 23 rfl B 3 ii _ 1 8 Try.underlying23 hii hz0 hz1 hz2 rfl (by decide) _ _ _ rfl (HR1.out.alloc _) ⟨V.heap.size, 0, none⟩ 1 1 [.int .i64 c1] rfl rfl (World.news_of_block (cs := #[.int .i64 c1]) (t := 3) (fr := (0, 0)) (heap_alloc_new V _)) (by simp [Value.oneCell']) q3 q4 (by rw [World.size_alloc]; exact Nat.le_succ_of_le q6) ?_; intro v1' V4 hown1 hgrow1 _; have H4 := Lib.hid (HJ.out.push1 (x := ⟨c1, t1, s1'⟩) hgrow1 (by rw [HLJ.out]; exact hown1)); obtain ⟨f2, f3⟩ := HF.out V4 (H4.out.kept.mono fun k (hk : k < W13.heap.size) => by rw [HZ.out] at hk; exact hk); have hr2 := H4.out.r2; rw [HLJ.out] at hr2; have HR2' := Lib.hid hr2; have q7 := H4.out.le; clear hown1 hgrow1 hr2 HJ)
          | (at_builtin; refine wpList_append_own _ rfl _ _ 61 rfl B 45 ij _ 2 16 Try.underlying61 hij hy0 hy1 hy2 rfl (by decide) _ _ _ rfl (HR2'.out.alloc _) ⟨V4.heap.size, 0, none⟩ 1 1 [.int .i64 t1, .int .i64 s1'] rfl rfl (World.news_of_block (cs := #[.int .i64 t1, .int .i64 s1']) (t := 45) (fr := (0, 0)) (heap_alloc_new V4 _)) (by simp [Value.oneCell']) q3 q5 (by rw [World.size_alloc]; exact Nat.le_succ_of_le q7) ?_; intro v2' V5 hown2 hgrow2 _; have H5 := Lib.hid (H4.out.push2 (x := ⟨c1, t1, s1'⟩) hgrow2 (by rw [HLJ.out]; exact hown2)); clear hown2 hgrow2 H4))
        rw [← HSN.out] at H5
        clear HSN HF HLJ HR1 HR2' f1 f2 f3 q3 q4 q5 q6 q7
        go_roundw
        case rel => exact ⟨j + 1, _, _, _, rfl, rfl, rfl, by omega, by go_num, H5⟩
        case measure => simp only [RowKit.intOf]; omega
      · have j1 : ¬ (j : Int) < (len : Int) := by omega
        have hE1 : ps.take j = ps := List.take_of_length_le (by rw [HL.out.2]; omega)
        have hJ := HJ.out
        rw [hE1] at hJ
        obtain ⟨a1, p1, rfl⟩ := row_slice14 hJ.r1
        obtain ⟨a2, p2, rfl⟩ := row_slice14 hJ.r2
        have hcs := hJ.cs
        have hss := hJ.ss
        have HGA := Lib.hid fun (p : KW V) => plGood a len cap ps s0 s1 p.V (HL.out.1.old (HXF.out.2.2.2.go (hkV.go p.hk))) HL.out.2 (by omega)
        have HGB := Lib.hid fun (p : KW V) => r14Good a1 a2 len p1 p2 ps s0 s1 p.V (hcs.old p.hk) (hss.old p.hk) HL.out.2 (by omega)
        have HXV := Lib.hid (HXF.out.old hkV)
        have f0 : ∀ p : KW V, p.V.cell? ⟨w.heap.size + 1 + 1, 0, none⟩ = some (.int .i64 s0) := fun p => (HXV.out.2.2.1.kept p.hk HXV.out.2.2.1.lt).at (b := 0) (Nat.zero_le _)
        have f1 : ∀ p : KW V, p.V.cell? ⟨w.heap.size + 1 + 1, 1, none⟩ = some (.int .i64 s1) := fun p => (HXV.out.2.2.1.kept p.hk HXV.out.2.2.1.lt).at (b := 1) (Nat.le_refl _)
        obtain ⟨G, hG⟩ : ∃ G, okL ps s0 s1 = G := ⟨_, rfl⟩
        rw [hG] at HGA HGB
        rw [HL.out.2]
        clear hJ hE1 hcs hss HJ hkV hii hz0 hz1 hz2 hij hy0 hy1 hy2 hG
        go_wp2_with fail
        refine wp_region_quiet_kept (by kernel_rfl) (by kernel_rfl) ?_
        repeat (go_big_quiet_step ((first | (go_at_call 17; exact Calls.kept_of (HGA.out _)) | (go_at_call 18; exact Calls.kept_of (HGB.out _)))))
        refine wpQuiet_nil ?_
        intro V9 hw'
        obtain ⟨⟨V8, hV⟩, hw''⟩ := hw'
        subst hw''
        clear f0 f1
        go_wp2_with fail
        go_ret
        exact ⟨by simp, HXV.out.2.2.2.go hV⟩

end Go.Proofs.Ytdbanlifneomgaa
