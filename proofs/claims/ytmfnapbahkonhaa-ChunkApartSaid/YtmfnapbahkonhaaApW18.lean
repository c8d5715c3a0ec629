/- ChunkApart's walk. -/
import Derived.Test.YtmfnapbahkonhaaAq18
import Derived.Test.YtmfnapbahkonhaaAw18
import Derived.Test.YtmfnapbahkonhaaArgs
import Derived.Test.YtmfnapbahkonhaaNums
import Derived.Deep.RegionLaw
import Derived.Deep.AppendLies
set_option linter.unusedVariables false
namespace Go.Proofs.Ytmfnapbahkonhaa
open Go.RowKit

theorem infoSpot : (Try.prog.info? 36).map (fun i => (i.zero, i.size, i.bytes)) = some (some (.agg #[.int .i64 0, .int .i64 0]), 2, 16) := by kernel_rfl
theorem infoStr : (Try.prog.info? 9).map (fun i => (i.zero, i.size, i.bytes)) = some (some (.string ⟨#[]⟩), 1, 16) := by kernel_rfl

theorem ap18_bnd (j : Nat) (h : j < 20) : j + 1 ≤ maxLen ∧ (j + 1) * 16 ≤ 140737488355328 := ⟨by unfold maxLen; omega, by omega⟩
set_option maxHeartbeats 8000000 in
set_option maxRecDepth 100000 in
theorem apartW18 (size which other : Int) (bq : Int) (what : Int) (w : World) (w0 : (Lit.int .i64 size).wf = true) (w1 : (Lit.int .i64 which).wf = true) (w2 : (Lit.int .i64 other).wf = true) (w3 : (Lit.int .u8 bq).wf = true) (w4 : (Lit.int .i64 what).wf = true) :
    Calls Try.prog 4 #[.int .i64 size, .int .i64 which, .int .i64 other, .int .u8 bq, .int .i64 what] w fun e w' => e = .returned (.bool true) ∧ KeptIn (· < w.heap.size) w w' := by
  obtain ⟨b, hb⟩ : ∃ b : UInt8, bq = (b.toNat : Int) := by
    have h : 0 ≤ bq ∧ bq ≤ 255 := by
      simp [Lit.wf, IntKind.min, IntKind.max, IntKind.signed, IntKind.bits] at w3
      omega
    exact ⟨UInt8.ofNat bq.toNat, by rw [UInt8.toNat_ofNat']; omega⟩
  obtain ⟨k, hk, hk1, hk8⟩ : ∃ k : Nat, wrap64 (1 + wrap64 ((IntKind.u64.wrap size).tmod 8)) = (k : Int) ∧ 1 ≤ k ∧ k ≤ 8 := ⟨szOf size, szOf_walk64 size, szOf_le size⟩
  obtain ⟨q, hq, hqe⟩ := modWalk which 20 (by decide) (by decide)
  obtain ⟨o, ho, hoe⟩ := modWalk other 20 (by decide) (by decide)
  obtain ⟨i2, hi, hz0, hz1, hz2⟩ := info_parts infoSpot
  obtain ⟨i1, hj, hy0, hy1, hy2⟩ := info_parts infoStr
  have HIS := Lib.hid (And.intro hi (And.intro hz0 (And.intro hz1 hz2)))
  have HIT := Lib.hid (And.intro hj (And.intro hy0 (And.intro hy1 hy2)))
  have HK := Lib.hid hk
  have HK8 := Lib.hid (And.intro hk1 hk8)
  have HQ : Hid (wrap64 ((IntKind.u64.wrap which).tmod 20) = (q : Int) ∧ q < 20) := Lib.hid ⟨hqe, hq⟩
  have HO : Hid (wrap64 ((IntKind.u64.wrap other).tmod 20) = (o : Int) ∧ o < 20) := Lib.hid ⟨hoe, ho⟩
  have HB := Lib.hid hb
  have h10 : Hid (wrap64 (10 * (k : Int)) = ((10 * k : Nat) : Int) ∧ wrap64 (((10 * k : Nat) : Int) + 3) = ((10 * k + 3 : Nat) : Int)) := Lib.hid ⟨by unfold wrap64; omega, by unfold wrap64; omega⟩
  clear w0 w1 w2 w3 w4 hi hz0 hz1 hz2 hj hy0 hy1 hy2 hk hk1 hk8 hq hqe ho hoe
  go_enter Try.func4, Try.ntmps4
  go_wp2_with (go_at_call 6; refine (awake18 w).mono ?_)
  rintro e w1 ⟨rfl, hk1⟩
  have C1 := Lib.hid (vNew (w := w) w1 hk1)
  clear hk1
  go_upto_region 4 with fail
  rw [HK.out]
  go_wp2_with (go_at_call 7; refine C1.out.mono ?_)
  rintro e w2 ⟨m, rfl, hp2, hm2, hk2⟩
  have C2 := Lib.hid (vMade (w := w) w2 hk2 hp2 hm2 ((10 * k : Nat) : Int) (10 * k) (by have := HK8.out; omega))
  clear hp2 hm2 hk2 C1
  go_wp2_with (go_at_call 29; rw [h10.out.1]; refine C2.out.mono ?_)
  rintro e w3 ⟨d, s, b1, rfl, hd3⟩
  have C3 := Lib.hid (uMade hd3 ((10 * k + 3 : Nat) : Int) (10 * k + 3) (by have := HK8.out; omega))
  clear hd3 C2
  go_wp2_with (go_at_call 29; rw [h10.out.1, h10.out.2]; refine C3.out.mono ?_)
  rintro e w4 ⟨d2, s2, b2, rfl, hd4⟩
  obtain ⟨T, hT⟩ : ∃ T, mkT ⟨d, s, b1, 0, List.replicate (10 * k) zeroS, fun _ => none⟩ ⟨d2, s2, b2, 0, List.replicate (10 * k + 3) zeroS, fun _ => none⟩ = T := ⟨_, rfl⟩
  rw [hT] at hd4
  have e0 : (T 0).d = d := by rw [← hT]; rfl
  have e1 : (T 1).d = d2 := by rw [← hT]; rfl
  have hl0 : (T 0).S.length = 10 * k := by rw [← hT]; simp [mkT]
  have hl1 : (T 1).S.length = 10 * k + 3 := by rw [← hT]; simp [mkT]
  have hN : ∀ t, t < 2 → (T t).N ≤ 0 := fun t ht => by
    rw [← hT]
    rcases (by omega : t = 0 ∨ t = 1) with rfl | rfl <;> exact Nat.le_refl _
  have cn := uNew hd4 k (by
    have := HK8.out
    rw [hl0, hl1]
    simp only [canC, Bool.and_eq_true, decide_eq_true_eq]
    omega)
  rw [e0, e1] at cn
  have C4 := Lib.hid cn
  have HE : Hid (10 ≤ slN T k 0 ∧ 10 ≤ slN T k 1 ∧ ∀ t, t < 2 → (T t).N ≤ 0) := Lib.hid (by
    have h8 := HK8.out
    refine ⟨?_, ?_, hN⟩
    · unfold slN
      rw [hl0, Nat.mul_div_cancel _ (by omega)]
      decide
    · unfold slN
      rw [hl1, Nat.mul_comm, Nat.mul_add_div (by omega)]
      exact Nat.le_min.2 ⟨Nat.le_add_right _ _, by decide⟩)
  clear cn hd4 C3 hT e0 e1 hl0 hl1 hN
  go_wp2_with (go_at_call 9; refine C4.out.mono ?_)
  rintro e w5 ⟨rfl, hd5⟩
  obtain ⟨kk, hkk⟩ : ∃ k, w4.heap.size = k := ⟨_, rfl⟩
  rw [hkk] at hd5 ⊢
  have HD5 := Lib.hid hd5
  clear hd5 C4 hkk
  go_wp2_with fail
  have HJ0 := Lib.hid (Ap18.start (C := tx18 k) HD5.out pw0_free HE.out.1 HE.out.2.1 HE.out.2.2)
  generalize (w5.alloc (.cells #[] 36)).alloc (.cells #[] 9) = W0 at *
  generalize Value.slice (some ⟨w5.heap.size, 0, none⟩) 0 0 = vs0 at *
  generalize Value.slice (some ⟨w5.heap.size + 1, 0, none⟩) 0 0 = vt0 at *
  clear HD5 HE
  go_loopw [15, 16, 17] (fun vs vt c wr => ∃ (j : Nat) (p : Pw) (T : Nat → Dsk) (W : World), W = wr ∧ j ≤ 20 ∧ c = .int .i64 (j : Int) ∧ Hid (Ap18 w kk m k j j (8 * j) vs vt p T (tx18 k) ((List.range j).map (tx18 k)) W)) (fun _ _ c _ => 20 - (RowKit.intOf c).toNat)
  case atStart => exact ⟨0, _, _, W0, rfl, Nat.zero_le _, rfl, HJ0⟩
  case round =>
    obtain ⟨j, p, T, W, rfl, hj, rfl, HJ⟩ := hrel
    clear HJ0
    generalize hXj : (List.range j).map (tx18 k) = Xj at HJ
    have HXJ : Hid (Xj.length = j ∧ (List.range j).map (tx18 k) = Xj) := Lib.hid ⟨by rw [← hXj, List.length_map, List.length_range], hXj⟩
    clear hXj
    by_cases hlt : j < 20
    · have b0 : (0 : Int) ≤ (j : Int) := by omega
      have b1 : (j : Int) < 20 := by omega
      go_upto_region 14 with fail
      obtain ⟨y, hy⟩ : ∃ y, W.heap.size = y := ⟨_, rfl⟩
      obtain ⟨W1, hW1⟩ : ∃ W1, W.alloc (.cells #[.int .i64 ((j : Int) / 10), .int .i64 ((j : Int) % 10)] 36) = W1 := ⟨_, rfl⟩
      have e1 : (j : Int) / 10 = ((j / 10 : Nat) : Int) := by omega
      have e2 : (j : Int) % 10 = ((j % 10 : Nat) : Int) := by omega
      rw [hW1, hy, e1, e2]
      have hbx : BoxS y (spQ j) W1 := by
        rw [← hW1, ← hy, e1, e2]
        exact BoxS.new W (spQ j)
      have hJ1 := HJ.out.old (W' := W1) (by rw [← hW1]; exact keptNew W _)
      have hyf : y ≠ m ∧ ∀ t, t < 2 → y ≠ (T t).b := by
        have h1 := HJ.out.lw.dk.isP.lt
        refine ⟨by omega, fun t ht => ?_⟩
        have h2 := (HJ.out.lw.dk.isD t ht).ltb
        omega
      have hbyte : IntKind.u8.wrap (IntKind.i64.wrap ((j : Int) + 1)) = ((UInt8.ofNat (j + 1)).toNat : Int) := by
        rw [UInt8.toNat_ofNat', IntKind.wrap_i64, IntKind.wrap_u8]
        omega
      obtain ⟨t, ht⟩ : ∃ t, ((j / 10 : Nat) : Int) = t := ⟨_, rfl⟩
      obtain ⟨s', hs'⟩ : ∃ s, ((j % 10 : Nat) : Int) = s := ⟨_, rfl⟩
      have hsp : spV (spQ j) = .agg #[.int .i64 t, .int .i64 s'] := by rw [← ht, ← hs']; rfl
      have c0 : W1.cell? ⟨y, 0, none⟩ = some (.int .i64 t) := by rw [← ht]; exact hbx.c0
      have c1 : W1.cell? ⟨y, 1, none⟩ = some (.int .i64 s') := by rw [← hs']; exact hbx.c1
      obtain ⟨l, hl⟩ : ∃ l, tx18 k j = l := ⟨_, rfl⟩
      have hll : l.length = 16 * k := by rw [← hl]; exact tx18_length k j
      obtain ⟨v, hv⟩ : ∃ v : Int, ((UInt8.ofNat (j + 1)).toNat : Int) = v := ⟨_, rfl⟩
      rw [hv] at hbyte
      have HV2 : Hid ((j : Int) + 1 = v) := Lib.hid (by rw [← hv, UInt8.toNat_ofNat']; omega)
      have HCF : Hid (∀ V, Calls Try.prog 21 #[.int .u8 v, .int .i64 (k : Int)] V fun e w' => e = .returned (.string ⟨l.toArray⟩) ∧ KeptIn (· < V.heap.size) V w') := Lib.hid fun V => by
        rw [← hv, ← hl]
        exact lFill (UInt8.ofNat (j + 1)) k (16 * k) rfl (by have := HK8.out; omega) V
      have HCG : Hid (∀ V, KeptIn (· < W1.heap.size) W1 V → Calls Try.prog 21 #[.int .u8 v, .int .i64 (k : Int)] V fun e w' => e = .returned (.string ⟨l.toArray⟩) ∧ KeptIn (· < W1.heap.size) W1 w' ∧ w'.cell? ⟨y, 0, none⟩ = some (.int .i64 t) ∧ w'.cell? ⟨y, 1, none⟩ = some (.int .i64 s')) := Lib.hid fun V hV => by
        refine (HCF.out V).mono fun e w' ⟨h1, h2⟩ => ⟨h1, hV.onM h2, ?_, ?_⟩
        · rw [← ht]; exact (hbx.old (hV.onM h2)).c0
        · rw [← hs']; exact (hbx.old (hV.onM h2)).c1
      have HCW : Hid (∀ V, KeptIn (· < W1.heap.size) W1 V → Calls Try.prog 22 #[.pointer (some ⟨kk, 0, none⟩), .agg #[.int .i64 t, .int .i64 s'], .int .i64 0, .string ⟨l.toArray⟩] V fun e w' => e = .returned (.int .i64 0) ∧ (∃ p2 T2, Ap18 w kk m k j (j + 1) (8 * (j + 1)) u15 u16 p2 T2 (tx18 k) Xj w') ∧ BoxS y (spQ j) w') := Lib.hid fun V hV => by
        have := ap18Write (hJ1.old hV) j (j + 1) l (tx18 k) hlt hll (fun i h1 h2 => ⟨by omega, rfl⟩) hl (by omega)
        rw [hsp] at this
        refine this.mono fun e w' ⟨h1, ⟨p2, T2, h2⟩, h3⟩ => ⟨h1, ⟨p2, T2, ⟨h2.lw, h2.fr, h2.l0, h2.l1, h2.tx, h2.x16, fun t ht => by have := h2.nn t ht; have := HK8.out; omega, h2.rs, h2.rt⟩⟩, ?_⟩
        exact (h3 y (hbx.old hV).lt hyf.1 hyf.2).trans (hbx.old hV)
      have HLL := Lib.hid hll
      have HTX := Lib.hid hl
      have HSP := Lib.hid (And.intro ht hs')
      clear hy hW1 e1 e2 hbx hJ1 hyf hsp hll hv hl HJ
      rw [ht, hs']
      clear ht hs'
      go_region_law (first
        | (go_simp; go_at_call 21; refine (HCG.out _ (by first | assumption | exact (KeptIn.refl _ _).drew)).mono ?_; rintro e V1 ⟨rfl, hv1, v10, v11⟩)
        | (go_simp; go_at_call 22; refine (HCW.out _ (by first | assumption | exact (KeptIn.refl _ _).drew)).mono ?_; rintro e V3 ⟨rfl, ⟨p3, T3, hv3⟩, hb3⟩))
      all_goals
        have HJ3 := Lib.hid (And.intro hv3 hb3)
        clear hv3 hb3 hv1 v10 v11 c0 c1 HCG HCW
        have c0 : V3.cell? ⟨y, 0, none⟩ = some (.int .i64 t) := by rw [← HSP.out.1]; exact HJ3.out.2.c0
        have c1 : V3.cell? ⟨y, 1, none⟩ = some (.int .i64 s') := by rw [← HSP.out.2]; exact HJ3.out.2.c1
        have HRS := Lib.hid HJ3.out.1.rs
        have q6 := HJ3.out.1.lw.kept.size
        obtain ⟨q3, q5⟩ := ap18_bnd j hlt
        obtain ⟨hi, hz0, hz1, hz2⟩ := HIS.out
        obtain ⟨hj1, hy0, hy1, hy2⟩ := HIT.out
        go_wp2_with (at_builtin; refine wpList_append_own _ rfl _ _ 62 rfl w.heap.size 36 i2 _ 2 16 Try.underlying62 hi hz0 hz1 hz2 rfl (by decide) _ _ _ rfl (HRS.out.alloc _) ⟨V3.heap.size, 0, none⟩ 1 1 [.int .i64 t, .int .i64 s'] rfl rfl (World.news_of_block (cs := #[.int .i64 t, .int .i64 s']) (t := 36) (fr := (0, 0)) (heap_alloc_new V3 _)) (by simp [Value.oneCell']) q3 q5 (by rw [World.size_alloc]; exact Nat.le_succ_of_le q6) ?_)
        intro v4 V4 hown4 hgrow4 _
        rw [← HSP.out.1, ← HSP.out.2] at hown4
        have HJ4 := Lib.hid (HJ3.out.1.pushS hgrow4 hown4)
        clear hown4 hgrow4 HRS q6 c0 c1 HJ3
        go_wp2_with (go_at_call 21; rw [HV2.out]; refine (HCF.out _).mono ?_)
        rintro e V5 ⟨rfl, hk5⟩
        have HJ5 := Lib.hid (HJ4.out.old hk5)
        clear hk5 HJ4 HCF
        have hrt := HJ5.out.rt
        rw [HXJ.out.1] at hrt
        have HRT := Lib.hid hrt
        have q6 := HJ5.out.lw.kept.size
        clear hrt
        go_wp2_with (at_builtin; refine wpList_append_own _ rfl _ _ 54 rfl w.heap.size 9 i1 _ 1 16 Try.underlying54 hj1 hy0 hy1 hy2 rfl (by decide) _ _ _ rfl (HRT.out.alloc _) ⟨V5.heap.size, 0, none⟩ 1 1 [.string ⟨l.toArray⟩] rfl rfl (World.news_of_block (cs := #[.string ⟨l.toArray⟩]) (t := 9) (fr := (0, 0)) (heap_alloc_new V5 _)) (by simp [Value.oneCell']) q3 q5 (by rw [World.size_alloc]; exact Nat.le_succ_of_le q6) ?_)
        intro v6 V6 hown6 hgrow6 _
        have hJ6 := HJ5.out.pushT (v' := v6) (l := l) HLL.out hgrow6 (by rw [HXJ.out.1]; exact hown6)
        rw [← HTX.out, ← HXJ.out.2, show (List.range j).map (tx18 k) ++ [tx18 k j] = (List.range (j + 1)).map (tx18 k) by rw [List.range_succ, List.map_append]; rfl] at hJ6
        have HJ6 := Lib.hid hJ6
        clear hown6 hgrow6 HRT q6 hJ6 HJ5 hi hz0 hz1 hz2 hj1 hy0 hy1 hy2 q3 q5
        go_wp2_with fail
        go_roundw
        case rel => exact ⟨j + 1, _, _, _, rfl, by omega, by go_num, HJ6⟩
        case measure => simp [RowKit.intOf]; omega
    · obtain rfl : j = 20 := by omega
      have hz20 : Xj.length = 20 := HXJ.out.1
      rw [show ((20 : Nat) : Int) = 20 from rfl]
      obtain ⟨r, hr, hre⟩ : ∃ r : Nat, r < 3 ∧ (IntKind.u64.wrap what).tmod 3 = (r : Int) := by
        have hw : 0 ≤ IntKind.u64.wrap what := by rw [IntKind.wrap_u64]; exact Int.emod_nonneg _ (by decide)
        rw [Int.tmod_eq_emod_of_nonneg hw]
        exact ⟨(IntKind.u64.wrap what % 3).toNat, by omega, by omega⟩
      have HR : Hid ((IntKind.u64.wrap what).tmod 3 = (r : Int) ∧ r < 3) := Lib.hid ⟨hre, hr⟩
      clear hj hlt hre hr h10
      go_upto_region 20 with fail
      rw [HQ.out.1, HO.out.1]
      go_upto_block 2 with fail
      rw [HR.out.1]
      obtain ⟨gs, cs, rfl, hsp⟩ := HJ.out.spots (by decide)
      obtain ⟨gt, ct, rfl, htx, htf⟩ := HJ.out.texts (by omega)
      rw [hz20] at HJ ⊢
      have HSP := Lib.hid hsp
      have HTX := Lib.hid (And.intro htx htf)
      have HXC : Hid (∀ i, i < 20 → Xj[i]? = some (tx18 k i)) := Lib.hid fun i hi => by
        rw [← HXJ.out.2, List.getElem?_map, List.getElem?_range hi]
        rfl
      have HXL := Lib.hid hz20
      have q0 : (0 : Int) ≤ (q : Int) := by omega
      have q1 : (q : Int) < 20 := by have := HQ.out.2; omega
      clear hsp htx htf hz20 HXJ
      go_cut [] from 96 to 154 (fun wx => ∃ W' : World, W' = wx ∧ Hid (Apx w kk m k (.slice (some ⟨gs, 0, none⟩) 20 cs) (.slice (some ⟨gt, 0, none⟩) 20 ct) W'))
      case first =>
        obtain ⟨tq, htq⟩ : ∃ t, ((q / 10 : Nat) : Int) = t := ⟨_, rfl⟩
        obtain ⟨sq, hsq⟩ : ∃ t, ((q % 10 : Nat) : Int) = t := ⟨_, rfl⟩
        have HS : Hid (spV (spQ q) = .agg #[.int .i64 tq, .int .i64 sq]) := Lib.hid (by rw [← htq, ← hsq]; rfl)
        have HCELL : Hid (∀ V, KeptIn (· < W.heap.size) W V → V.cell? ⟨gs, q * 2, none⟩ = some (.int .i64 tq) ∧ V.cell? ⟨gs, q * 2 + 1, none⟩ = some (.int .i64 sq)) := Lib.hid fun V hV => by
          rw [← htq, ← hsq]
          exact HSP.out V hV q HQ.out.2
        obtain ⟨c0, c1⟩ := HCELL.out W (KeptIn.refl _ _)
        clear htq hsq
        rcases (by have := HR.out.2; omega : r = 0 ∨ r = 1 ∨ r = 2) with rfl | rfl | rfl
        · obtain ⟨km, hkm⟩ : ∃ n, k - 1 = n := ⟨_, rfl⟩
          have hkw : IntKind.i64.wrap ((k : Int) - 1) = (km : Int) := by rw [IntKind.wrap_i64]; have := HK8.out; omega
          obtain ⟨l, hl⟩ : ∃ l, List.replicate 16 b = l := ⟨_, rfl⟩
          have hll : l.length = 16 * 1 := by rw [← hl]; simp
          obtain ⟨x, hx⟩ : ∃ x, tx18 k q = x := ⟨_, rfl⟩
          have hxl : x.length = 16 * k := by rw [← hx]; exact tx18_length k q
          obtain ⟨xt, hxt⟩ : ∃ xt, x.take (16 * km) = xt := ⟨_, rfl⟩
          have hxtl : xt.length = 16 * km := by rw [← hxt, List.length_take, hxl]; have := HK8.out; omega
          have HCF : Hid (∀ V, Calls Try.prog 21 #[.int .u8 (b.toNat : Int), .int .i64 1] V fun e w' => e = .returned (.string ⟨l.toArray⟩) ∧ KeptIn (· < V.heap.size) V w') := Lib.hid fun V => by
            rw [← hl]
            exact lFill b 1 16 rfl (by decide) V
          have HCG : Hid (∀ V, KeptIn (· < W.heap.size) W V → Calls Try.prog 21 #[.int .u8 (b.toNat : Int), .int .i64 1] V fun e w' => e = .returned (.string ⟨l.toArray⟩) ∧ KeptIn (· < W.heap.size) W w' ∧ w'.cell? ⟨gs, q * 2, none⟩ = some (.int .i64 tq) ∧ w'.cell? ⟨gs, q * 2 + 1, none⟩ = some (.int .i64 sq)) := Lib.hid fun V hV =>
            (HCF.out V).mono fun e w' ⟨h1, h2⟩ => ⟨h1, hV.onM h2, HCELL.out _ (hV.onM h2)⟩
          have HCW : Hid (∀ V, KeptIn (· < W.heap.size) W V → Calls Try.prog 22 #[.pointer (some ⟨kk, 0, none⟩), .agg #[.int .i64 tq, .int .i64 sq], .int .i64 (km : Int), .string ⟨l.toArray⟩] V fun e w' => e = .returned (.int .i64 0) ∧ ∃ p2 T2, Ap18 w kk m k 20 20 161 (.slice (some ⟨gs, 0, none⟩) 20 cs) (.slice (some ⟨gt, 0, none⟩) 20 ct) p2 T2 (upC (tx18 k) q (xt ++ l)) Xj w') := Lib.hid fun V hV => by
            have := ap18Last (HJ.out.old hV) q l (upC (tx18 k) q (xt ++ l)) HQ.out.2 HQ.out.2 hll (fun i _ h => upC_ne _ _ _ _ h) (by rw [upC_self, hx, hkm, hxt]) (by decide)
            rwa [HS.out, hkm] at this
          have HX0 : Hid (Xj[q]? = some x) := Lib.hid (by rw [← hx]; exact HXC.out q HQ.out.2)
          have HXT : Hid ((xt ++ l).length = 16 * k) := Lib.hid (by rw [List.length_append, hxtl, hll]; have := HK8.out; omega)
          have HN : Hid ((16 : Int) * (km : Int) = ((16 * km : Nat) : Int) ∧ 16 * km ≤ 112 ∧ x.length = 16 * k ∧ l.length = 16 ∧ xt.length = 16 * km) := Lib.hid ⟨by omega, by have := HK8.out; omega, hxl, hll, hxtl⟩
          have HXT2 := Lib.hid hxt
          have HKM : Hid (km + 1 = k) := Lib.hid (by have := HK8.out; omega)
          clear hkm hl hll hx hxl hxt hxtl
          go_wp2_with fail
          go_region_law (first
            | (go_simp; go_at_call 21; refine (HCG.out _ (by first | assumption | exact (KeptIn.refl _ _).drew)).mono ?_; rintro e V1 ⟨rfl, hv1, v10, v11⟩)
            | (go_simp; go_at_call 22; refine (HCW.out _ (by first | assumption | exact (KeptIn.refl _ _).drew)).mono ?_; rintro e V3 ⟨rfl, p3, T3, hv3⟩))
          all_goals
            have HJ3 := Lib.hid hv3
            clear hv3 hv1 v10 v11 c0 c1 HCG HCW
            obtain ⟨ct0, cf0⟩ := HJ3.out.textAt HX0.out
            have HCH : Hid (∀ V, KeptIn (· < V3.heap.size) V3 V → Calls Try.prog 21 #[.int .u8 (b.toNat : Int), .int .i64 1] V fun e w' => e = .returned (.string ⟨l.toArray⟩) ∧ KeptIn (· < V3.heap.size) V3 w' ∧ w'.cell? ⟨gt, q, none⟩ = some (.string ⟨x.toArray⟩) ∧ w'.frozen? ⟨gt, q, none⟩ = false) := Lib.hid fun V hV =>
              (HCF.out V).mono fun e w' ⟨h1, h2⟩ => ⟨h1, hV.onM h2, (HJ3.out.old (hV.onM h2)).textAt HX0.out⟩
            obtain ⟨n9, hn9⟩ : ∃ n, 16 * km = n := ⟨_, rfl⟩
            have hw9 : IntKind.i64.wrap (16 * (km : Int)) = (n9 : Int) := by rw [HN.out.1, hn9, IntKind.wrap_i64]; have := HN.out.2.1; omega
            have hex : (⟨x.toArray⟩ : ByteArray).extract 0 n9 = ⟨xt.toArray⟩ := by
              rw [subB x 0 n9 (Nat.zero_le _) (by rw [HN.out.2.2.1, ← hn9]; have := HKM.out; omega), ← HXT2.out, hn9]
              rfl
            have hnx : (n9 : Int) ≤ (x.length : Int) := by rw [HN.out.2.2.1, ← hn9]; have := HKM.out; omega
            have hn0 : (0 : Int) ≤ (n9 : Int) := by omega
            have hsum : ¬ 9223372036854775807 < xt.length + l.length := by rw [HN.out.2.2.2.2, HN.out.2.2.2.1]; have := HN.out.2.1; omega
            have HFIN : Hid (∀ V, KeptIn (· < V3.heap.size) V3 V → Apx w kk m k (.slice (some ⟨gs, 0, none⟩) 20 cs) (.slice (some ⟨gt, 0, none⟩) 20 ct) (V.setCell ⟨gt, q, none⟩ (.string (⟨xt.toArray⟩ ++ ⟨l.toArray⟩)))) := Lib.hid fun V hV => by
              have := apx_fin (HJ3.out.old hV) HXL.out HXC.out HQ.out.2 rfl HXT.out
              rwa [strV, ← joinB] at this
            clear hn9 HJ3 HX0
            go_wp2_with fail
            go_region_law (first
              | (go_simp; go_at_call 21; refine (HCH.out _ (by first | assumption | exact (KeptIn.refl _ _).drew)).mono ?_; rintro e V5 ⟨rfl, hv5, v50, v51⟩))
            all_goals
              have HAX := Lib.hid (HFIN.out _ hv5)
              clear hv5 v50 v51 ct0 cf0 HFIN HCH HCF
              go_wp2_with fail
              go_meet
              case rel => exact ⟨_, rfl, HAX⟩
        · obtain ⟨tz, hto⟩ : ∃ t, ((o / 10 : Nat) : Int) = t := ⟨_, rfl⟩
          obtain ⟨sz, hso⟩ : ∃ t, ((o % 10 : Nat) : Int) = t := ⟨_, rfl⟩
          have hspo : spV (spQ o) = .agg #[.int .i64 tz, .int .i64 sz] := by rw [← hto, ← hso]; rfl
          obtain ⟨d0, d1⟩ := HSP.out W (KeptIn.refl _ _) o HO.out.2
          rw [hto] at d0
          rw [hso] at d1
          have o0 : (0 : Int) ≤ (o : Int) := by omega
          have o1 : (o : Int) < 20 := by have := HO.out.2; omega
          obtain ⟨x, hx⟩ : ∃ x, tx18 k o = x := ⟨_, rfl⟩
          have hxl : x.length = 16 * k := by rw [← hx]; exact tx18_length k o
          have HCC : Hid (∀ V, KeptIn (· < W.heap.size) W V → Calls Try.prog 15 #[.pointer (some ⟨kk, 0, none⟩), .agg #[.int .i64 tz, .int .i64 sz], .agg #[.int .i64 tq, .int .i64 sq]] V fun e w' => e = .returned (.int .i64 0) ∧ ∃ p2 T2, Ap18 w kk m k 20 20 (8 * 20 + k) (.slice (some ⟨gs, 0, none⟩) 20 cs) (.slice (some ⟨gt, 0, none⟩) 20 ct) p2 T2 (upC (tx18 k) q x) Xj w') := Lib.hid fun V hV => by
            have := ap18Copy (HJ.out.old hV) o q (upC (tx18 k) q x) HO.out.2 HO.out.2 HQ.out.2 (by rw [hx]; exact hxl) (fun i _ h => upC_ne _ _ _ _ h) (by rw [upC_self, hx]) (by decide)
            rwa [HS.out, hspo] at this
          have HX0 : Hid (Xj[q]? = some (tx18 k q)) := Lib.hid (HXC.out q HQ.out.2)
          have HX1 : Hid (Xj[o]? = some x) := Lib.hid (by rw [← hx]; exact HXC.out o HO.out.2)
          have HXLEN := Lib.hid hxl
          clear hto hso hspo hx hxl
          go_wp2_with fail
          go_region_law (first
            | (go_simp; go_at_call 15; refine (HCC.out _ (by first | assumption | exact (KeptIn.refl _ _).drew)).mono ?_; rintro e V3 ⟨rfl, p3, T3, hv3⟩))
          all_goals
            have HJ3 := Lib.hid hv3
            clear hv3 c0 c1 d0 d1 HCC
            obtain ⟨ct0, cf0⟩ := HJ3.out.textAt HX0.out
            have ct1 := (HJ3.out.textAt HX1.out).1
            have HAX : Hid (Apx w kk m k (.slice (some ⟨gs, 0, none⟩) 20 cs) (.slice (some ⟨gt, 0, none⟩) 20 ct) (V3.setCell ⟨gt, q, none⟩ (.string ⟨x.toArray⟩))) := Lib.hid (apx_fin HJ3.out HXL.out HXC.out HQ.out.2 rfl HXLEN.out)
            clear HJ3 HX0 HX1 HXLEN
            go_wp2_with fail
            go_meet
            case rel => exact ⟨_, rfl, HAX⟩
        · obtain ⟨x, hx⟩ : ∃ x : List UInt8, List.replicate (16 * k) 0 = x := ⟨_, rfl⟩
          have hxl : x.length = 16 * k := by rw [← hx]; simp
          have HCZ : Hid (Calls Try.prog 17 #[.pointer (some ⟨kk, 0, none⟩), .agg #[.int .i64 tq, .int .i64 sq]] W fun e w' => e = .returned (.int .i64 0) ∧ ∃ p2 T2, Ap18 w kk m k 20 20 (8 * 20 + k) (.slice (some ⟨gs, 0, none⟩) 20 cs) (.slice (some ⟨gt, 0, none⟩) 20 ct) p2 T2 (upC (tx18 k) q x) Xj w') := Lib.hid (by
            have := ap18Zero HJ.out q (upC (tx18 k) q x) HQ.out.2 (fun i _ h => upC_ne _ _ _ _ h) (by rw [upC_self, ← hx, Nat.mul_comm]) (by decide)
            rwa [HS.out] at this)
          have HCF : Hid (∀ V, Calls Try.prog 21 #[.int .u8 0, .int .i64 (k : Int)] V fun e w' => e = .returned (.string ⟨x.toArray⟩) ∧ KeptIn (· < V.heap.size) V w') := Lib.hid fun V => by
            rw [← hx]
            exact lFill 0 k (16 * k) rfl (by have := HK8.out; omega) V
          have HX0 : Hid (Xj[q]? = some (tx18 k q)) := Lib.hid (HXC.out q HQ.out.2)
          have HXLEN := Lib.hid hxl
          clear hx hxl
          go_wp2_with (go_at_call 17; refine HCZ.out.mono ?_; rintro e V3 ⟨rfl, p3, T3, hv3⟩; have HJ3 := Lib.hid hv3; clear hv3 HCZ)
          clear c0 c1
          go_wp2_with (go_at_call 21; refine (HCF.out V3).mono ?_)
          rintro e V4 ⟨rfl, hv4⟩
          have HJ4 := Lib.hid (HJ3.out.old hv4)
          clear hv4 HJ3
          obtain ⟨ct0, cf0⟩ := HJ4.out.textAt HX0.out
          have HAX : Hid (Apx w kk m k (.slice (some ⟨gs, 0, none⟩) 20 cs) (.slice (some ⟨gt, 0, none⟩) 20 ct) (V4.setCell ⟨gt, q, none⟩ (.string ⟨x.toArray⟩))) := Lib.hid (apx_fin HJ4.out HXL.out HXC.out HQ.out.2 rfl HXLEN.out)
          clear HJ4 HX0 HXLEN
          go_wp2_with fail
          go_meet
          case rel => exact ⟨_, rfl, HAX⟩
      case rest =>
        obtain ⟨W9, rfl, HX⟩ := hcut
        obtain ⟨p9, T9, C9, X9, b9, hA, hXl, hXC⟩ := HX.out
        have HJ9 := Lib.hid hA
        have HXC9 := Lib.hid hXC
        clear hA hXl hXC HX HJ HSP HTX HXC HXL HIS HIT HB HO HQ HK
        go_wp2_with fail
        go_loopw [21] (fun c wr => ∃ (i : Nat) (V : World), V = wr ∧ i ≤ 20 ∧ c = .int .i64 (i : Int) ∧ Hid (Ap18 w kk m k 20 20 b9 (.slice (some ⟨gs, 0, none⟩) 20 cs) (.slice (some ⟨gt, 0, none⟩) 20 ct) p9 T9 C9 X9 V)) (fun c _ => 20 - (RowKit.intOf c).toNat)
        case atStart => exact ⟨0, W9, rfl, Nat.zero_le _, rfl, HJ9⟩
        case round =>
          obtain ⟨i, V, rfl, hi, rfl, HJ⟩ := hrel
          clear HJ9
          by_cases hlt : i < 20
          · have b0 : (0 : Int) ≤ (i : Int) := by omega
            have b1 : (i : Int) < 20 := by omega
            obtain ⟨c0, c1⟩ := HJ.out.spotAt hlt
            have cr := ap18Read HJ.out i hlt hlt
            have HXI := Lib.hid (HXC9.out i hlt)
            obtain ⟨x, hx⟩ : ∃ x, C9 i = x := ⟨_, rfl⟩
            rw [hx] at cr HXI
            obtain ⟨tq, htq⟩ : ∃ t, ((i / 10 : Nat) : Int) = t := ⟨_, rfl⟩
            obtain ⟨sq, hsq⟩ : ∃ t, ((i % 10 : Nat) : Int) = t := ⟨_, rfl⟩
            have hs : spV (spQ i) = .agg #[.int .i64 tq, .int .i64 sq] := by rw [← htq, ← hsq]; rfl
            rw [hs] at cr
            rw [htq] at c0
            rw [hsq] at c1
            have HCR := Lib.hid cr
            clear cr hx htq hsq hs
            go_wp2_with (go_at_call 13; refine HCR.out.mono ?_)
            rintro e V2 ⟨rfl, hk2⟩
            have HJ2 := Lib.hid (HJ.out.old hk2)
            clear HJ HCR hk2 c0 c1
            have ct0 := (HJ2.out.textAt HXI.out).1
            clear HXI
            go_wp2_with fail
            go_roundw
            case rel => exact ⟨i + 1, _, rfl, by omega, by go_num, HJ2⟩
            case measure => simp [RowKit.intOf]; omega
          · obtain rfl : i = 20 := by omega
            have HSP0 : Hid (∀ V', KeptIn (· < V.heap.size) V V' → V'.cell? ⟨gs, 0, none⟩ = some (.int .i64 0) ∧ V'.cell? ⟨gs, 1, none⟩ = some (.int .i64 0) ∧ V'.cell? ⟨gs, 2, none⟩ = some (.int .i64 0) ∧ V'.cell? ⟨gs, 3, none⟩ = some (.int .i64 1)) := Lib.hid fun V' hV =>
              ⟨((HJ.out.old hV).spotAt (q := 0) (by decide)).1, ((HJ.out.old hV).spotAt (q := 0) (by decide)).2, ((HJ.out.old hV).spotAt (q := 1) (by decide)).1, ((HJ.out.old hV).spotAt (q := 1) (by decide)).2⟩
            obtain ⟨c0, c1, c2, c3⟩ := HSP0.out V (KeptIn.refl _ _)
            have HKV := Lib.hid HJ.out.lw.kept
            clear hi hlt HJ
            have HRN := Lib.hid fun V => ckReadNil ⟨0, 0⟩ 0 1 V
            simp only [spV] at HRN
            go_wp2_with (go_at_call 13; refine (HRN.out V).mono ?_)
            rintro e V2 ⟨rfl, hk2⟩
            have HK2 := Lib.hid hk2
            have HDN := Lib.hid (dNew m 9 9 V2 (by decide))
            clear hk2 HRN c0 c1 c2 c3
            go_wp2_with (go_at_call 29; refine HDN.out.mono ?_)
            rintro e V3 ⟨d9, s9, b9', rfl, _, hk3, _, _, _⟩
            have HK3 := Lib.hid (HK2.out.onM hk3)
            have HNN := Lib.hid (ckNewNilA (.pointer (some ⟨d9, 0, none⟩)) 1 V3)
            clear hk3 HDN HK2
            go_wp2_with (go_at_call 9; refine HNN.out.mono ?_)
            rintro e _ ⟨rfl, rfl⟩
            clear HNN
            have c0 : ∀ q : KW V3, q.V.cell? ⟨gs, 0, none⟩ = some (.int .i64 0) := fun q => (HSP0.out q.V (HK3.out.onM q.hk)).1
            have c1 : ∀ q : KW V3, q.V.cell? ⟨gs, 1, none⟩ = some (.int .i64 0) := fun q => (HSP0.out q.V (HK3.out.onM q.hk)).2.1
            have c2 : ∀ q : KW V3, q.V.cell? ⟨gs, 2, none⟩ = some (.int .i64 0) := fun q => (HSP0.out q.V (HK3.out.onM q.hk)).2.2.1
            have c3 : ∀ q : KW V3, q.V.cell? ⟨gs, 3, none⟩ = some (.int .i64 1) := fun q => (HSP0.out q.V (HK3.out.onM q.hk)).2.2.2
            have HWN := Lib.hid fun (q : KW V3) => ckWriteNil ⟨0, 0⟩ 0 ⟨#[]⟩ q.V
            have HCN := Lib.hid fun (q : KW V3) => ckCopyNil ⟨0, 0⟩ ⟨0, 1⟩ q.V
            have HZN := Lib.hid fun (q : KW V3) => ckZeroNil ⟨0, 0⟩ q.V
            simp only [spV] at HWN HCN HZN
            go_wp2_with fail
            refine wp_region_quiet_kept (by kernel_rfl) (by kernel_rfl) ?_
            repeat (go_big_quiet_step (first
              | (go_at_call 22; exact Calls.kept_of (HWN.out _))
              | (go_at_call 15; exact Calls.kept_of (HCN.out _))
              | (go_at_call 17; exact Calls.kept_of (HZN.out _))
              | (go_at_call 19; exact Calls.kept_same (ckFlushNil 0 _))
              | (go_at_call 10; exact Calls.kept_same (ckSizeNil _))
              | (go_at_call 27; exact Calls.kept_same (ckSlotsNil 0 _))
              | (go_at_call 20; exact Calls.kept_same (ckLooseNil 0 _))))
            refine wpQuiet_nil ?_
            intro V4 hw'
            obtain ⟨⟨V5, hV⟩, hw''⟩ := hw'
            subst hw''
            clear c0 c1 c2 c3
            go_wp2
            go_ret
            exact ⟨rfl, HKV.out.onM (HK3.out.onM hV)⟩

end Go.Proofs.Ytmfnapbahkonhaa
