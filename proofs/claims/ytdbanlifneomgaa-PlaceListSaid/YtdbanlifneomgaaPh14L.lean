import Derived.Test.YtdbanlifneomgaaM3
import Derived.Test.YtdbanlifneomgaaQk13L
import Derived.Deep.RegionHeld3
import Derived.Deep.Cut
import Derived.Deep.CutRange
import Derived.Deep.CutBlock
/- Places: Good. -/
set_option linter.unusedVariables false
namespace Go.Proofs.Ytdbanlifneomgaa
open Go.RowKit

set_option maxRecDepth 100000 in
set_option maxHeartbeats 4000000 in
theorem plGood (a : Option Addr) (n cap : Nat) (vs : List Pla) (s0 s1 : Int) (w : World) (h : IsLs w a vs) (hn : vs.length = n) (hl : n ≤ 100000) :
    Calls Try.prog 17 #[.slice a n cap, .agg #[.int .i64 s0, .int .i64 s1]] w fun e w' => e = .returned (.bool (okL vs s0 s1)) ∧ KeptIn (· < w.heap.size) w w' := by
  obtain ⟨R, hR⟩ : ∃ R, okL vs s0 s1 = R := ⟨_, rfl⟩
  have HR := Lib.hid hR
  rw [hR]
  have H := Lib.hid (And.intro h hn)
  obtain ⟨y, hy⟩ : ∃ y, w.heap.size = y := ⟨_, rfl⟩
  obtain ⟨W0, hW0⟩ : ∃ W0, w.alloc (.cells #[.int .i64 s0, .int .i64 s1] 52) = W0 := ⟨_, rfl⟩
  have HW := Lib.hid (And.intro hW0 hy)
  have hnI : (n : Int) ≤ 100000 := by omega
  have hs0 : W0.heap.size = y + 1 := by rw [← hW0, World.size_alloc, hy]
  have HS0 := Lib.hid hs0
  clear h hn hR hW0 hy hs0
  go_enter Try.func17, Try.ntmps17
  go_upto_region 1 with fail
  rw [HW.out.1]
  simp only [HW.out.2]
  go_wp2_with (refine wpList_alloc_T rfl rfl ?_; intro W1 hb1 hk1 hz1)
  rw [HS0.out]
  have hg1 := gd14_start w vs s0 s1 W0 W1 HW.out.1.symm hb1 hk1
  rw [HW.out.2, HS0.out] at hg1
  have HJ0 := Lib.hid hg1
  clear hb1 hk1 hz1 hg1
  go_loopw [6, 7, 10] (fun _ _ i wr => ∃ (j : Nat) (W : World), W = wr ∧ j ≤ n ∧ i = .int .i64 (j : Int) ∧ Hid (Gd14 w y (y + 1) vs s0 s1 j W)) (fun _ _ i _ => n - (RowKit.intOf i).toNat)
  case atStart => exact ⟨0, _, rfl, Nat.zero_le _, rfl, HJ0⟩
  case round =>
    obtain ⟨j, W, rfl, hj, rfl, HJ⟩ := hrel
    clear HJ0
    have d0 : (0 : Int) ≤ (j : Int) := by omega
    by_cases hlt : j < n
    · have d1 : (j : Int) < (n : Int) := by omega
      have hjl : j < vs.length := by rw [H.out.2]; exact hlt
      obtain ⟨b, off, rfl, hb, hc⟩ := H.out.1.cells (by omega)
      have hkb : W.heap[b]? = w.heap[b]? := HJ.out.1.block b hb
      obtain ⟨e0, e1, e2⟩ := hc j hjl
      have g0 := (World.cell?_of_block (a := ⟨b, off + j * 3, none⟩) hkb).trans e0
      have g1 := (World.cell?_of_block (a := ⟨b, off + j * 3 + 1, none⟩) hkb).trans e1
      have g2 := (World.cell?_of_block (a := ⟨b, off + j * 3 + 2, none⟩) hkb).trans e2
      have gp : 0 < j → W.cell? ⟨b, off + (j - 1) * 3, none⟩ = some (.int .i64 (vs.getD (j - 1) pla0).ch) := fun hp => by
        rw [List.getD_eq_getElem?_getD, List.getElem?_eq_getElem (by omega)]
        exact (World.cell?_of_block (a := ⟨b, off + (j - 1) * 3, none⟩) hkb).trans (hc (j - 1) (by omega)).1
      have hgd : vs.getD j pla0 = vs[j] := by rw [List.getD_eq_getElem?_getD, List.getElem?_eq_getElem hjl]; rfl
      have HNO := Lib.hid fun (hx : ¬ OkAt vs s0 s1 j) => HR.out.symm.trans (okL_no hjl hx)
      obtain ⟨x, hx⟩ : ∃ x, vs[j] = x := ⟨_, rfl⟩
      rw [hx] at g0 g1 g2 hgd
      have HX := Lib.hid hgd
      have HGP := Lib.hid (And.intro gp (show b < w.heap.size from hb))
      clear hc e0 e1 e2 hkb hgd hx hjl gp hb
      obtain ⟨W5, hW5⟩ : ∃ W5, W.alloc (.cells #[.int .i64 x.ch, .int .i64 x.tier, .int .i64 x.slot] 47) = W5 := ⟨_, rfl⟩
      have hA5 : BoxPl W.heap.size x W5 := by rw [← hW5]; exact heap_alloc_new W _
      have hk5 : KeptIn (· < W.heap.size) W W5 := by rw [← hW5]; exact (KeptIn.refl _ W).alloc (fun _ h => h) _
      obtain ⟨z, hz⟩ : ∃ z, W.heap.size = z := ⟨_, rfl⟩
      rw [hz] at hA5
      have H5 := Lib.hid (And.intro (HJ.out.old hk5) hA5)
      have HW5 := Lib.hid (And.intro hW5 hz)
      have HJK := Lib.hid HJ.out.1
      clear hA5 hk5 HJ hW5 hz
      by_cases hg : GoodP x
      · have HGD := Lib.hid hg
        have HC := Lib.hid fun (p : KW W5) => plCan x p.V
        rw [decide_eq_true hg] at HC
        obtain ⟨c0, t, s, rfl, -, -, ht, hs⟩ := goodP_nats hg
        unfold plaV at HC
        simp only at HC g0 g1 g2 HW5
        have htI : (t : Int) < 2 := by omega
        have hsI : (s : Int) < 256 := by omega
        have ht0 : (0 : Int) ≤ (t : Int) := by omega
        have hs0 : (0 : Int) ≤ (s : Int) := by omega
        obtain ⟨sl, hsl⟩ : ∃ sl, slotsOf s0 s1 (t : Int) = sl := ⟨_, rfl⟩
        have HSL := Lib.hid hsl
        clear hg hsl
        go_upto_region 5 with fail
        rw [HW5.out.1]
        simp only [HW5.out.2]
        have p0 : ∀ p : KW W5, p.V.cell? ⟨z, 0, none⟩ = some (.int .i64 (c0 : Int)) := fun p => (H5.out.2.kept p.hk H5.out.2.lt).c0
        have p1 : ∀ p : KW W5, p.V.cell? ⟨z, 1, none⟩ = some (.int .i64 (t : Int)) := fun p => (H5.out.2.kept p.hk H5.out.2.lt).c1
        have p2 : ∀ p : KW W5, p.V.cell? ⟨z, 2, none⟩ = some (.int .i64 (s : Int)) := fun p => (H5.out.2.kept p.hk H5.out.2.lt).c2
        have p3 : ∀ p : KW W5, p.V.cell? ⟨y, t, none⟩ = some (.int .i64 sl) := fun p => by
          have := (H5.out.1.2.1.kept p.hk H5.out.1.2.1.lt).at ht
          rw [HSL.out] at this
          exact this
        by_cases hlo : (s : Int) < sl
        · have l1 : ¬ sl ≤ (s : Int) := by omega
          have l2 : decide (sl ≤ (s : Int)) = false := decide_eq_false l1
          refine wp_region_quiet_kept (by kernel_rfl) (by kernel_rfl) ?_
          repeat (go_big_quiet_step ((go_at_call 32; exact Calls.kept_of (HC.out _))))
          refine wpQuiet_nil ?_
          intro V hw'
          obtain ⟨⟨V2, hV⟩, hw''⟩ := hw'
          subst hw''
          have H6 := Lib.hid (And.intro (H5.out.1.old hV) (H5.out.2.kept hV H5.out.2.lt))
          have p0 := H6.out.2.c0
          have p1 := H6.out.2.c1
          have p2 := H6.out.2.c2
          simp only at p0 p1 p2
          clear p3 H5 hV l1 l2 HC
          by_cases hj0 : 0 < j
          · have j1 : (0 : Int) < (j : Int) := by omega
            have j2 : decide ((0 : Int) < (j : Int)) = true := decide_eq_true j1
            have j3 : decide (0 < j) = true := decide_eq_true hj0
            have gq := (World.cell?_of_block (a := ⟨b, off + (j - 1) * 3, none⟩) (H6.out.1.1.block b HGP.out.2)).trans ((World.cell?_of_block (a := ⟨b, off + (j - 1) * 3, none⟩) (HJK.out.block b HGP.out.2)).symm.trans (HGP.out.1 hj0))
            obtain ⟨cp, hcp⟩ : ∃ cp, (vs.getD (j - 1) pla0).ch = cp := ⟨_, rfl⟩
            rw [hcp] at gq
            have HCP := Lib.hid hcp
            clear hcp
            by_cases hle : (c0 : Int) ≤ cp
            · have HF : Hid (R = false) := Lib.hid (HNO.out fun h => by
                have h2 := h.2.2.1 hj0
                rw [HX.out, HCP.out] at h2
                simp only at h2
                omega)
              go_wp2_with fail
              go_quiet (fail)
              go_wp2_with fail
              go_ret
              rw [HF.out]
              exact ⟨rfl, H6.out.1.1.drewN _⟩
            · have l1 : decide ((c0 : Int) ≤ cp) = false := decide_eq_false hle
              go_wp2_with fail
              go_quiet (fail)
              have HPV : Hid (0 < j → (vs.getD (j - 1) pla0).ch < (vs.getD j pla0).ch) := Lib.hid fun _ => by rw [HX.out, HCP.out]; simp only; omega
              clear gq l1 hle
              obtain ⟨V8, hV8⟩ : ∃ V8, V.drewN nq = V8 := ⟨_, rfl⟩
              rw [hV8]
              have hk8 : KeptIn (· < V.heap.size) V V8 := by rw [← hV8]; exact (KeptIn.refl _ V).drewN nq
              have H7 := Lib.hid (And.intro (H6.out.1.old hk8) (H6.out.2.kept hk8 H6.out.2.lt))
              clear H6 hV8 hk8 p0 p1 p2
              have p0 := H7.out.2.c0
              have p1 := H7.out.2.c1
              have p2 := H7.out.2.c2
              simp only at p0 p1 p2
              obtain ⟨l, hbl, hml⟩ := H7.out.1.2.2.2.1
              obtain ⟨m, hm1, hm2⟩ := hml.iff t s ht hs
              have hcm := hbl.cell hm1
              have HM := Lib.hid hm2
              clear hbl hml hm1 hm2
              cases m with
              | true =>
                have HF : Hid (R = false) := Lib.hid (HNO.out fun h => by
                  obtain ⟨k, hk, h1, h2⟩ := HM.out.1 rfl
                  refine h.2.2.2 k hk ?_
                  rw [HX.out]
                  exact ⟨h1, h2⟩)
                go_wp2_with fail
                go_quiet (fail)
                go_wp2_with fail
                go_ret
                rw [HF.out]
                exact ⟨rfl, H7.out.1.1.drewN _⟩
              | false =>
                have HOK : Hid (OkAt vs s0 s1 j) := Lib.hid (by
                  refine ⟨by rw [HX.out]; exact HGD.out, by rw [HX.out]; simp only; rw [HSL.out]; exact hlo, HPV.out, fun k hk h => ?_⟩
                  rw [HX.out] at h
                  have := HM.out.2 ⟨k, hk, h.1, h.2⟩
                  cases this)
                go_wp2_with fail
                go_quiet (fail)
                obtain ⟨V9, hV9⟩ : ∃ V9, V8.drewN nq = V9 := ⟨_, rfl⟩
                rw [hV9]
                have hk9 : KeptIn (· < V8.heap.size) V8 V9 := by rw [← hV9]; exact (KeptIn.refl _ V8).drewN nq
                have H8 := Lib.hid (And.intro (H7.out.1.old hk9) (H7.out.2.kept hk9 H7.out.2.lt))
                clear H7 hV9 hk9 p0 p1 p2 hcm
                have p0 := H8.out.2.c0
                have p1 := H8.out.2.c1
                have p2 := H8.out.2.c2
                simp only at p0 p1 p2
                obtain ⟨l', hbl, hml⟩ := H8.out.1.2.2.2.1
                obtain ⟨m', hm1, -⟩ := hml.iff t s ht hs
                have hcm := hbl.cell hm1
                have hfm := hbl.fro (t * 256 + s)
                have HJ2 := Lib.hid (H8.out.1.mark ht hs (by rw [HX.out]) (by rw [HX.out]) HOK.out)
                clear hbl hml hm1 H8 HOK HM
                go_wp2_with fail
                go_region
                go_wp2_with fail
                go_roundw
                case rel => exact ⟨j + 1, _, rfl, by omega, by go_num, Lib.hid (HJ2.out.old (KeptIn.refl _ _).drew)⟩
                case measure => simp only [RowKit.intOf]; omega
          · have j1 : ¬ (0 : Int) < (j : Int) := by omega
            have j2 : decide ((0 : Int) < (j : Int)) = false := decide_eq_false j1
            have j3 : decide (0 < j) = false := decide_eq_false hj0
            have HPV : Hid (0 < j → (vs.getD (j - 1) pla0).ch < (vs.getD j pla0).ch) := Lib.hid fun h => absurd h hj0
            go_wp2_with fail
            go_quiet (fail)
            obtain ⟨V8, hV8⟩ : ∃ V8, V.drewN nq = V8 := ⟨_, rfl⟩
            rw [hV8]
            have hk8 : KeptIn (· < V.heap.size) V V8 := by rw [← hV8]; exact (KeptIn.refl _ V).drewN nq
            have H7 := Lib.hid (And.intro (H6.out.1.old hk8) (H6.out.2.kept hk8 H6.out.2.lt))
            clear H6 hV8 hk8 p0 p1 p2
            have p0 := H7.out.2.c0
            have p1 := H7.out.2.c1
            have p2 := H7.out.2.c2
            simp only at p0 p1 p2
            obtain ⟨l, hbl, hml⟩ := H7.out.1.2.2.2.1
            obtain ⟨m, hm1, hm2⟩ := hml.iff t s ht hs
            have hcm := hbl.cell hm1
            have HM := Lib.hid hm2
            clear hbl hml hm1 hm2
            cases m with
            | true =>
              have HF : Hid (R = false) := Lib.hid (HNO.out fun h => by
                obtain ⟨k, hk, h1, h2⟩ := HM.out.1 rfl
                refine h.2.2.2 k hk ?_
                rw [HX.out]
                exact ⟨h1, h2⟩)
              go_wp2_with fail
              go_quiet (fail)
              go_wp2_with fail
              go_ret
              rw [HF.out]
              exact ⟨rfl, H7.out.1.1.drewN _⟩
            | false =>
              have HOK : Hid (OkAt vs s0 s1 j) := Lib.hid (by
                refine ⟨by rw [HX.out]; exact HGD.out, by rw [HX.out]; simp only; rw [HSL.out]; exact hlo, HPV.out, fun k hk h => ?_⟩
                rw [HX.out] at h
                have := HM.out.2 ⟨k, hk, h.1, h.2⟩
                cases this)
              go_wp2_with fail
              go_quiet (fail)
              obtain ⟨V9, hV9⟩ : ∃ V9, V8.drewN nq = V9 := ⟨_, rfl⟩
              rw [hV9]
              have hk9 : KeptIn (· < V8.heap.size) V8 V9 := by rw [← hV9]; exact (KeptIn.refl _ V8).drewN nq
              have H8 := Lib.hid (And.intro (H7.out.1.old hk9) (H7.out.2.kept hk9 H7.out.2.lt))
              clear H7 hV9 hk9 p0 p1 p2 hcm
              have p0 := H8.out.2.c0
              have p1 := H8.out.2.c1
              have p2 := H8.out.2.c2
              simp only at p0 p1 p2
              obtain ⟨l', hbl, hml⟩ := H8.out.1.2.2.2.1
              obtain ⟨m', hm1, -⟩ := hml.iff t s ht hs
              have hcm := hbl.cell hm1
              have hfm := hbl.fro (t * 256 + s)
              have HJ2 := Lib.hid (H8.out.1.mark ht hs (by rw [HX.out]) (by rw [HX.out]) HOK.out)
              clear hbl hml hm1 H8 HOK HM
              go_wp2_with fail
              go_region
              go_wp2_with fail
              go_roundw
              case rel => exact ⟨j + 1, _, rfl, by omega, by go_num, Lib.hid (HJ2.out.old (KeptIn.refl _ _).drew)⟩
              case measure => simp only [RowKit.intOf]; omega
        · have l1 : sl ≤ (s : Int) := by omega
          have l2 : decide (sl ≤ (s : Int)) = true := decide_eq_true l1
          have HF : Hid (R = false) := Lib.hid (HNO.out fun h => hlo (by have h2 := h.2.1; rw [HX.out] at h2; simp only at h2; rw [HSL.out] at h2; exact h2))
          refine wp_region_quiet_kept (by kernel_rfl) (by kernel_rfl) ?_
          repeat (go_big_quiet_step ((go_at_call 32; exact Calls.kept_of (HC.out _))))
          refine wpQuiet_nil ?_
          intro V hw'
          obtain ⟨⟨V2, hV⟩, hw''⟩ := hw'
          subst hw''
          clear p0 p1 p2 p3 l1 l2
          go_wp2_with fail
          go_ret
          rw [HF.out]
          exact ⟨rfl, H5.out.1.1.go hV⟩
      · have HF : Hid (R = false) := Lib.hid (HNO.out fun h => hg (by rw [← HX.out]; exact h.1))
        have HC := Lib.hid fun (p : KW W5) => plCan x p.V
        rw [decide_eq_false hg] at HC
        obtain ⟨ch, tier, slot⟩ := x
        unfold plaV at HC
        simp only at HC g0 g1 g2 HW5
        clear hg
        go_upto_region 5 with fail
        rw [HW5.out.1]
        simp only [HW5.out.2]
        have p0 : ∀ p : KW W5, p.V.cell? ⟨z, 0, none⟩ = some (.int .i64 ch) := fun p => (H5.out.2.kept p.hk H5.out.2.lt).c0
        have p1 : ∀ p : KW W5, p.V.cell? ⟨z, 1, none⟩ = some (.int .i64 tier) := fun p => (H5.out.2.kept p.hk H5.out.2.lt).c1
        have p2 : ∀ p : KW W5, p.V.cell? ⟨z, 2, none⟩ = some (.int .i64 slot) := fun p => (H5.out.2.kept p.hk H5.out.2.lt).c2
        refine wp_region_quiet_kept (by kernel_rfl) (by kernel_rfl) ?_
        repeat (go_big_quiet_step ((go_at_call 32; exact Calls.kept_of (HC.out _))))
        refine wpQuiet_nil ?_
        intro V hw'
        obtain ⟨⟨V2, hV⟩, hw''⟩ := hw'
        subst hw''
        clear p0 p1 p2
        go_wp2_with fail
        go_ret
        rw [HF.out]
        exact ⟨rfl, H5.out.1.1.go hV⟩
    · have d1 : ¬ (j : Int) < (n : Int) := by omega
      have HE : Hid (R = true ∧ KeptIn (· < w.heap.size) w W) := Lib.hid ⟨HR.out.symm.trans (okL_iff.2 fun i hi => HJ.out.2.2.1 i (by rw [H.out.2] at hi; omega)), HJ.out.1⟩
      clear HJ
      go_wp2_with fail
      go_ret
      rw [HE.out.1]
      exact ⟨rfl, HE.out.2⟩

end Go.Proofs.Ytdbanlifneomgaa
