import Derived.Test.YtdbanlifneomgaaPn14L
import Derived.Deep.Cut
import Derived.Deep.CutRange
import Derived.Deep.CutBlock
import Derived.Deep.RegionLaw
/- PlaceList of layer 14: the walk: it returns true for every input and writes nothing that was there. -/
set_option linter.unusedVariables false
namespace Go.Proofs.Ytdbanlifneomgaa
open Go.RowKit


set_option maxHeartbeats 16000000 in
set_option maxRecDepth 100000 in
theorem pliW14 (a : Option Addr) (len cap : Nat) (w : World) (w0 : IsActs14 w a len) :
    Calls Try.prog 5 #[.slice a len cap] w fun e w' => e = .returned (.bool true) ∧ KeptIn (· < w.heap.size) w w' := by
  have l0 := w0.len_le
  unfold maxLen at l0
  have b0 : (len : Int) ≤ 9223372036854775807 := by omega
  have W0 := Lib.hid w0
  clear w0 l0
  go_enter Try.func5, Try.ntmps5
  go_wp2_with fail
  refine (awake14 w).mono ?_
  rintro e w3 ⟨rfl, k3⟩
  obtain ⟨W1, hW1⟩ : ∃ W1, w3.alloc (.cells #[.slice none 0 0, .int .i64 511] 30) = W1 := ⟨_, rfl⟩
  have ht := tn_new14 w3 511 (by decide) W1 hW1.symm
  obtain ⟨s, hs⟩ : ∃ s, w3.heap.size = s := ⟨_, rfl⟩
  rw [hs] at ht
  have HI0 : Hid (Vi14 w3 s 0 0 W1) := Lib.hid ⟨_, _, ht, Nat.le_refl _⟩
  have HK3 := Lib.hid (And.intro k3 hs)
  have HW := Lib.hid (And.intro hW1 hs)
  clear ht hs hW1 k3
  go_wp2_with fail
  rw [HW.out.1]
  simp only [HW.out.2]
  go_loopw [4, 5, 6, 7, 8, 9, 10, 11, 12, 13, 14, 15, 16, 17, 18, 19, 20, 21] (fun r i _ _ _ _ _ _ _ _ _ _ _ _ _ _ _ _ wr => ∃ (j root : Nat) (V : World), V = wr ∧ j ≤ len ∧ j ≤ 40 ∧ i = .int .i64 (j : Int) ∧ r = .int .i64 (root : Int) ∧ Hid (Vi14 w3 s j root V)) (fun _ i _ _ _ _ _ _ _ _ _ _ _ _ _ _ _ _ _ => 40 - (intOf i).toNat)
  case atStart => exact ⟨0, 0, _, rfl, Nat.zero_le _, Nat.zero_le _, rfl, rfl, HI0⟩
  case round =>
    obtain ⟨j, root, V, rfl, hj, hj1, rfl, rfl, HJ⟩ := hrel
    clear HI0
    have d0 : (0 : Int) ≤ (j : Int) := by omega
    by_cases hlt : j < len
    · have d1 : (j : Int) < (len : Int) := by omega
      by_cases hlt1 : j < 40
      · have d2 : (j : Int) < 40 := by omega
        obtain ⟨b, off, rfl, hb, _, hel⟩ : ∃ b off, a = some ⟨b, off, none⟩ ∧ b < w.heap.size ∧ len ≤ maxLen ∧ _ := W0.out.resolve_left (by omega)
        obtain ⟨kd, ⟨ch, tier, slot⟩, kk, xx, wk, wi, fk, fx, e0, e1, e2, e3, e4, e5⟩ := hel j hlt
        simp only at wi e1 e2 e3
        have hkw : KeptIn (· < w.heap.size) w V := HK3.out.1.go HJ.out.kw
        have g0 := (World.cell?_of_block (hkw.block b hb)).trans e0
        have g1 := (World.cell?_of_block (hkw.block b hb)).trans e1
        have g2 := (World.cell?_of_block (hkw.block b hb)).trans e2
        have g3 := (World.cell?_of_block (hkw.block b hb)).trans e3
        have g4 := (World.cell?_of_block (hkw.block b hb)).trans e4
        have g5 := (World.cell?_of_block (hkw.block b hb)).trans e5
        have bk := bounds_i64 wk
        have bi := bounds_i64 wi
        obtain ⟨W5, hW5⟩ : ∃ W5, V.alloc (.cells #[.int .i64 kd, .int .i64 ch, .int .i64 tier, .int .i64 slot, .int .u64 (kk : Int), .int .u64 (xx : Int)] 67) = W5 := ⟨_, rfl⟩
        obtain ⟨y, hy⟩ : ∃ y, V.heap.size = y := ⟨_, rfl⟩
        have hA5 : BoxA14 y kd ⟨ch, tier, slot⟩ kk xx W5 := by rw [← hW5, ← hy]; exact heap_alloc_new V _
        have hk5 : KeptIn (· < V.heap.size) V W5 := by rw [← hW5]; exact (KeptIn.refl _ V).alloc (fun _ h => h) _
        have H5 := Lib.hid (And.intro hA5 (show s < y by rw [← hy]; exact HJ.out.slt))
        have hJ5 := HJ.out.old hk5
        have HF := Lib.hid (And.intro fk fx)
        have HW5 := Lib.hid (And.intro hW5 hy)
        obtain ⟨qs, N, hT, hq⟩ := hJ5
        have HT := Lib.hid (And.intro hT hq)
        clear e0 e1 e2 e3 e4 e5 hel wk wi hA5 HJ hkw fk fx hk5 hW5 hy hT hq
        go_upto_block 2 with fail
        rw [HW5.out.1]
        simp only [HW5.out.2]
        clear g0 g1 g2 g3 g4 g5
        have p0 := H5.out.1.c0
        have p1 := H5.out.1.c1
        have p2 := H5.out.1.c2
        have p3 := H5.out.1.c3
        have p4 := H5.out.1.c4
        have p5 := H5.out.1.c5
        simp only at p0 p1 p2 p3 p4 p5
        go_cut [7, 8] from 42 to 203 (fun r e wx => ∃ (rr er : Nat) (V : World), V = wx ∧ r = .int .i64 (rr : Int) ∧ e = .int .i64 (er : Int) ∧ Hid (Vr14 w3 s (j + 1) rr er V))
        case first =>
          as_aux_lemma =>
            by_cases k1 : kd = 1
            · subst k1
              by_cases hg : GoodP ⟨ch, tier, slot⟩
              · obtain ⟨f1, f2, -⟩ := goodP_keys hg
                have HC := Lib.hid (plPut hg HT.out.1 (by omega) (by omega))
                have HG2 := Lib.hid fun W => r14Can ⟨ch, tier, slot⟩ W
                rw [decide_eq_true hg] at HG2
                unfold plaV pgV at HC
                unfold spotV at HG2
                simp only at HC HG2
                clear hg f1 f2
                go_wp2_with fail
                refine HC.out.mono ?_
                rintro e V2 hR
                obtain ⟨r, er, M, rfl, hM, hfr, hor⟩ := hR
                have HBX := Lib.hid (H5.out.1.kept hfr ⟨H5.out.1.lt, Nat.ne_of_gt H5.out.2⟩)
                have HV2 := Lib.hid (put14 HT.out.2 hor)
                clear HC p0 p1 p2 p3 p4 p5 hor hfr
                have p1 := HBX.out.c1
                have p2 := HBX.out.c2
                have p3 := HBX.out.c3
                simp only at p1 p2 p3
                go_wp2_with (first | (go_at_call 13; refine (HG2.out _).mono ?_; rintro e V3 ⟨rfl, hk3⟩))
                have HV3 : Hid (Vr14 w3 s (j + 1) r er V3) := Lib.hid (by
                  rcases HV2.out with ⟨h1, h2⟩ | ⟨h1, h2⟩
                  · exact .inl ⟨h1, h2.go hk3⟩
                  · exact .inr ⟨h1, h2.old hk3⟩)
                clear HV2 hk3 HBX p1 p2 p3
                go_meet
                case rel => exact ⟨r, er, _, rfl, rfl, rfl, HV3⟩
              · have HC := Lib.hid (plPutBad (W := W5) (s := s) (root := root) hg)
                have HG2 := Lib.hid fun W => r14Can ⟨ch, tier, slot⟩ W
                rw [decide_eq_false hg] at HG2
                unfold plaV pgV at HC
                unfold spotV at HG2
                simp only at HC HG2
                clear hg
                go_wp2_with fail
                refine HC.out.mono ?_
                rintro e V2 ⟨rfl, hk2⟩
                have HBX := Lib.hid (H5.out.1.kept hk2 H5.out.1.lt)
                have HV2 : Hid (Vi14 w3 s j root V2) := Lib.hid ⟨qs, N, HT.out.1.old hk2, HT.out.2⟩
                clear HC p0 p1 p2 p3 p4 p5 hk2
                have p1 := HBX.out.c1
                have p2 := HBX.out.c2
                have p3 := HBX.out.c3
                simp only at p1 p2 p3
                go_wp2_with (first | (go_at_call 13; refine (HG2.out _).mono ?_; rintro e V3 ⟨rfl, hk3⟩))
                have HX := Lib.hid (HV2.out.next hk3)
                clear hk3 HV2
                go_roundw
                case rel => exact ⟨j + 1, _, _, rfl, by omega, by omega, by go_num, rfl, HX⟩
                case measure => simp only [intOf]; omega
            · by_cases k2 : kd = 2
              · subst k2
                by_cases hg : GoodP ⟨ch, tier, slot⟩
                · obtain ⟨f1, f2, -⟩ := goodP_keys hg
                  have HC := Lib.hid (plPut hg HT.out.1 (by omega) (by omega))
                  have HG2 := Lib.hid fun W => r14Can ⟨ch, tier, slot⟩ W
                  rw [decide_eq_true hg] at HG2
                  unfold plaV pgV at HC
                  unfold spotV at HG2
                  simp only at HC HG2
                  clear hg f1 f2
                  go_wp2_with fail
                  refine HC.out.mono ?_
                  rintro e V2 hR
                  obtain ⟨r, er, M, rfl, hM, hfr, hor⟩ := hR
                  have HBX := Lib.hid (H5.out.1.kept hfr ⟨H5.out.1.lt, Nat.ne_of_gt H5.out.2⟩)
                  have HV2 := Lib.hid (put14 HT.out.2 hor)
                  clear HC p0 p1 p2 p3 p4 p5 hor hfr
                  have p1 := HBX.out.c1
                  have p2 := HBX.out.c2
                  have p3 := HBX.out.c3
                  simp only at p1 p2 p3
                  go_wp2_with (first | (go_at_call 13; refine (HG2.out _).mono ?_; rintro e V3 ⟨rfl, hk3⟩))
                  have HV3 : Hid (Vr14 w3 s (j + 1) r er V3) := Lib.hid (by
                    rcases HV2.out with ⟨h1, h2⟩ | ⟨h1, h2⟩
                    · exact .inl ⟨h1, h2.go hk3⟩
                    · exact .inr ⟨h1, h2.old hk3⟩)
                  clear HV2 hk3 HBX p1 p2 p3
                  go_meet
                  case rel => exact ⟨r, er, _, rfl, rfl, rfl, HV3⟩
                · have HC := Lib.hid (plPutBad (W := W5) (s := s) (root := root) hg)
                  have HG2 := Lib.hid fun W => r14Can ⟨ch, tier, slot⟩ W
                  rw [decide_eq_false hg] at HG2
                  unfold plaV pgV at HC
                  unfold spotV at HG2
                  simp only at HC HG2
                  clear hg
                  go_wp2_with fail
                  refine HC.out.mono ?_
                  rintro e V2 ⟨rfl, hk2⟩
                  have HBX := Lib.hid (H5.out.1.kept hk2 H5.out.1.lt)
                  have HV2 : Hid (Vi14 w3 s j root V2) := Lib.hid ⟨qs, N, HT.out.1.old hk2, HT.out.2⟩
                  clear HC p0 p1 p2 p3 p4 p5 hk2
                  have p1 := HBX.out.c1
                  have p2 := HBX.out.c2
                  have p3 := HBX.out.c3
                  simp only at p1 p2 p3
                  go_wp2_with (first | (go_at_call 13; refine (HG2.out _).mono ?_; rintro e V3 ⟨rfl, hk3⟩))
                  have HX := Lib.hid (HV2.out.next hk3)
                  clear hk3 HV2
                  go_roundw
                  case rel => exact ⟨j + 1, _, _, rfl, by omega, by omega, by go_num, rfl, HX⟩
                  case measure => simp only [intOf]; omega
              · by_cases k3 : kd = 3
                · subst k3
                  obtain ⟨K, hK1, hK2, hK3⟩ := drop_keys14 ch
                  by_cases hin : ∃ v, (K, v) ∈ qs
                  · obtain ⟨gv, hgv⟩ := hin
                    have HGT := Lib.hid (tmGet HT.out.1.m hK3 hgv)
                    unfold pgV at HGT
                    have HKK := Lib.hid hK2
                    have HK1 := Lib.hid hK1
                    have hK4 : IntKind.u64.wrap (8589934592 + IntKind.u64.wrap ch) = (K : Int) := hK2
                    go_wp2_with fail
                    refine HGT.out.mono ?_
                    rintro e V1 ⟨rfl, hk1⟩
                    have HBX := Lib.hid (H5.out.1.kept hk1 H5.out.1.lt)
                    have HTT := Lib.hid (HT.out.1.old hk1)
                    have HC := Lib.hid (plDrop HK1.out hK3 HTT.out)
                    unfold pgV at HC
                    clear HGT p0 p1 p2 p3 p4 p5 hk1 hK1 hK2 hK4
                    have p1 := HBX.out.c1
                    have p2 := HBX.out.c2
                    have p3 := HBX.out.c3
                    simp only at p1 p2 p3
                    go_wp2_with fail
                    refine HC.out.mono ?_
                    rintro e V2 hR
                    obtain ⟨r, er, bb, M, rfl, hM, hfr, hor⟩ := hR
                    clear HC p1 p2 p3 HBX
                    rcases hor with ⟨rfl, rfl, rfl, ht, -⟩ | ⟨rfl, hb0, -, ht⟩
                    · have HV3 : Hid (Vr14 w3 s (j + 1) 0 6 V2) := Lib.hid (.inl ⟨rfl, ht.kw14⟩)
                      clear ht hfr hM
                      go_wp2_with fail
                      go_meet
                      case rel => exact ⟨0, 6, _, rfl, rfl, rfl, HV3⟩
                    · have hbb : bb = true := (by simpa using hb0.2 ⟨gv, hgv⟩)
                      subst hbb
                      have HV3 : Hid (Vr14 w3 s (j + 1) r 0 V2) := Lib.hid (.inr ⟨rfl, _, _, ht.mono14 (by omega), by
                        have h1 := chg_len14 [] K qs
                        have h2 := HT.out.2
                        simp only [List.length_nil] at h1
                        omega⟩)
                      clear ht hfr hM hb0
                      go_wp2_with fail
                      go_meet
                      case rel => exact ⟨r, 0, _, rfl, rfl, rfl, HV3⟩
                  · have HGT := Lib.hid (tmGetNo HT.out.1.m hK3 (fun v hv => hin ⟨v, hv⟩))
                    unfold pgV at HGT
                    have HKK := Lib.hid hK2
                    have HK1 := Lib.hid hK1
                    have hK4 : IntKind.u64.wrap (8589934592 + IntKind.u64.wrap ch) = (K : Int) := hK2
                    go_wp2_with fail
                    refine HGT.out.mono ?_
                    rintro e V1 ⟨rfl, hk1⟩
                    have HBX := Lib.hid (H5.out.1.kept hk1 H5.out.1.lt)
                    have HTT := Lib.hid (HT.out.1.old hk1)
                    have HC := Lib.hid (plDrop HK1.out hK3 HTT.out)
                    unfold pgV at HC
                    clear HGT p0 p1 p2 p3 p4 p5 hk1 hK1 hK2 hK4
                    have p1 := HBX.out.c1
                    have p2 := HBX.out.c2
                    have p3 := HBX.out.c3
                    simp only at p1 p2 p3
                    go_wp2_with fail
                    refine HC.out.mono ?_
                    rintro e V2 hR
                    obtain ⟨r, er, bb, M, rfl, hM, hfr, hor⟩ := hR
                    clear HC p1 p2 p3 HBX
                    rcases hor with ⟨rfl, rfl, rfl, ht, -⟩ | ⟨rfl, hb0, -, ht⟩
                    · have HV3 : Hid (Vr14 w3 s (j + 1) 0 6 V2) := Lib.hid (.inl ⟨rfl, ht.kw14⟩)
                      clear ht hfr hM
                      go_wp2_with fail
                      go_meet
                      case rel => exact ⟨0, 6, _, rfl, rfl, rfl, HV3⟩
                    · have hbb : bb = false := (by cases bb with | false => rfl | true => exact absurd (hb0.1 rfl) hin)
                      subst hbb
                      have HV3 : Hid (Vr14 w3 s (j + 1) r 0 V2) := Lib.hid (.inr ⟨rfl, _, _, ht.mono14 (by omega), by
                        have h1 := chg_len14 [] K qs
                        have h2 := HT.out.2
                        simp only [List.length_nil] at h1
                        omega⟩)
                      clear ht hfr hM hb0
                      go_wp2_with fail
                      go_meet
                      case rel => exact ⟨r, 0, _, rfl, rfl, rfl, HV3⟩
                · have b1 : (kd == 1) = false := by rw [beq_eq_false_iff_ne]; exact k1
                  have b2 : (kd == 2) = false := by rw [beq_eq_false_iff_ne]; exact k2
                  have b3 : (kd == 3) = false := by rw [beq_eq_false_iff_ne]; exact k3
                  have HC := Lib.hid (tnPut HT.out.1 (by omega) (by omega) HF.out.1 HF.out.2)
                  unfold pgV at HC
                  go_wp2_with fail
                  refine HC.out.mono ?_
                  rintro e V2 hR
                  obtain ⟨r, er, M, rfl, hM, hfr, hor⟩ := hR
                  have HV3 := Lib.hid (put14 HT.out.2 hor)
                  clear HC p0 p1 p2 p3 p4 p5 hor hfr hM
                  go_wp2_with fail
                  go_meet
                  case rel => exact ⟨r, er, _, rfl, rfl, rfl, HV3⟩
        case rest =>
          as_aux_lemma =>
            obtain ⟨r, er, V, rfl, rfl, rfl, HV⟩ := hcut
            rcases HV.out with ⟨rfl, hk6⟩ | ⟨rfl, hV⟩
            · have HKE := Lib.hid (HK3.out.1.go hk6)
              clear hk6 HV
              go_wp2_with fail
              go_ret
              exact ⟨rfl, HKE.out⟩
            obtain ⟨qs, N, hT, hq⟩ := hV
            have HT := Lib.hid (And.intro hT hq)
            have HRG := Lib.hid (tmRange hT.m 8589934592 12884901887 (by decide) (by decide) (by omega))
            have HPL := Lib.hid fun V' (hk : KeptIn (· < V.heap.size) V V') => plList (hT.old hk).m (by omega)
            obtain ⟨ps, hps⟩ : ∃ ps, pr qs = ps := ⟨_, rfl⟩
            rw [show rng 8589934592 12884901887 qs = ps from hps] at HRG
            rw [hps] at HPL
            have hlen : ps.length ≤ 1000 := by rw [← hps]; exact Nat.le_trans (pr_len qs) (by omega)
            clear hps hT hq HV
            unfold pgV at HRG HPL
            go_wp2_with fail
            refine HRG.out.mono ?_
            rintro e V1 hR1
            unfold RngS at hR1
            obtain ⟨pv, rfl, hrow, hfit, hk1⟩ := hR1
            obtain ⟨pa, pc, rfl, -⟩ := row_slice hrow
            have H := Lib.hid (And.intro (row_IsPs hrow hfit) hk1)
            have HP2 := Lib.hid (HPL.out V1 hk1)
            obtain ⟨n, hn⟩ : ∃ n, ps.length = n := ⟨_, rfl⟩
            have hnI : (n : Int) ≤ 1000 := by omega
            have HN := Lib.hid hn
            rw [hn]
            obtain ⟨R, hR⟩ : ∃ R, plsOf ps = R := ⟨_, rfl⟩
            rw [hR] at HP2
            have HRR := Lib.hid hR
            clear hrow hfit hk1 hn hlen HRG HPL hR
            cases R with
            | none =>
              go_wp2_with fail
              refine HP2.out.mono ?_
              rintro e V2 hR2
              obtain ⟨rfl, hk2⟩ := hR2
              have HJ0 : Hid (KeptIn (· < V1.heap.size) V1 V2 ∧ (plsOf (ps.take 0)).isSome = true) := Lib.hid ⟨hk2, rfl⟩
              clear HP2 hk2
              go_wp2_with fail
              go_loopw [17, 18, 19, 20, 21] (fun g k _ _ _ wr => ∃ (t : Nat) (gb : Bool) (U : World), U = wr ∧ t ≤ n ∧ k = .int .i64 (t : Int) ∧ g = .bool gb ∧ Hid (KeptIn (· < V1.heap.size) V1 U ∧ (plsOf (ps.take t)).isSome = gb)) (fun _ k _ _ _ _ => n - (intOf k).toNat)
              case atStart => exact ⟨0, true, _, rfl, Nat.zero_le _, rfl, rfl, HJ0⟩
              case round =>
                obtain ⟨t, gb, U, rfl, ht, rfl, rfl, HJ⟩ := hrel
                clear HJ0
                have t0 : (0 : Int) ≤ (t : Int) := by omega
                by_cases hlt3 : t < n
                · have t1 : (t : Int) < (n : Int) := by omega
                  have htl : t < ps.length := by rw [HN.out]; exact hlt3
                  have hps := H.out.1.old HJ.out.1
                  obtain ⟨b, off, rfl, hb, hc⟩ := hps.cells (by omega)
                  obtain ⟨c1, c2⟩ := hc t htl
                  have hkf := hps.fits ps[t] (List.getElem_mem htl)
                  rw [← keyAt_get htl, ← valAt_get htl] at hkf
                  have HRD := Lib.hid fun W => r14Read (keyAt ps t) (valAt ps t) hkf.1 hkf.2 W
                  have hts := plsOf_take_some t htl
                  rw [HJ.out.2] at hts
                  obtain ⟨kk, hkk⟩ : ∃ kk, keyAt ps t = kk := ⟨_, rfl⟩
                  obtain ⟨vv, hvv⟩ : ∃ vv, valAt ps t = vv := ⟨_, rfl⟩
                  rw [hkk] at c1 HRD hts
                  rw [hvv] at c2 HRD hts
                  obtain ⟨o, ho⟩ : ∃ o, readPl kk vv = o := ⟨_, rfl⟩
                  rw [ho] at HRD hts
                  unfold pairV ReadM at HRD
                  obtain ⟨⟨i2, t2, s2⟩, hu⟩ : ∃ u, o.getD pla0 = u := ⟨_, rfl⟩
                  obtain ⟨ob, hob⟩ : ∃ ob, o.isSome = ob := ⟨_, rfl⟩
                  rw [hu, hob] at HRD
                  rw [hob] at hts
                  unfold spotV at HRD
                  simp only at HRD
                  have HTS := Lib.hid hts
                  clear hc hkk hvv htl hkf hps ho hu hob hts hb
                  go_wp2_with fail
                  refine (HRD.out _).mono ?_
                  rintro e U2 ⟨rfl, hk2⟩
                  obtain ⟨U3, hU3⟩ : ∃ U3, U2.alloc (.cells #[.int .i64 t2, .int .i64 s2] 45) = U3 := ⟨_, rfl⟩
                  have a3 : KeptIn (· < U2.heap.size) U2 U3 := by rw [← hU3]; exact (KeptIn.refl _ U2).alloc (fun _ h => h) _
                  have HJ2 : Hid (KeptIn (· < V1.heap.size) V1 U3 ∧ (plsOf (ps.take (t + 1))).isSome = (gb && ob)) := Lib.hid ⟨(HJ.out.1.go hk2).go a3, HTS.out⟩
                  have HU3 := Lib.hid hU3
                  clear HJ hk2 a3 hU3 c1 c2 HTS HRD
                  go_upto_region 39 with fail
                  rw [HU3.out]
                  cases gb with
                  | false =>
                    go_wp2_with fail
                    go_quiet (fail)
                    go_wp2_with fail
                    go_roundw
                    case rel => exact ⟨t + 1, false, _, rfl, by omega, by go_num, rfl, Lib.hid ⟨HJ2.out.1.go ((KeptIn.refl _ _).drewN nq), HJ2.out.2⟩⟩
                    case measure => simp only [intOf]; omega
                  | true =>
                    cases ob with
                    | false =>
                      go_wp2_with fail
                      go_quiet (fail)
                      go_wp2_with fail
                      go_roundw
                      case rel => exact ⟨t + 1, false, _, rfl, by omega, by go_num, rfl, Lib.hid ⟨HJ2.out.1.go ((KeptIn.refl _ _).drewN nq), HJ2.out.2⟩⟩
                      case measure => simp only [intOf]; omega
                    | true =>
                      go_wp2_with fail
                      go_quiet (fail)
                      go_wp2_with fail
                      go_roundw
                      case rel => exact ⟨t + 1, true, _, rfl, by omega, by go_num, rfl, Lib.hid ⟨HJ2.out.1.go ((KeptIn.refl _ _).drewN nq), HJ2.out.2⟩⟩
                      case measure => simp only [intOf]; omega
                · have t1 : ¬ (t : Int) < (n : Int) := by omega
                  have hgb : gb = false := by
                    have h1 := HJ.out.2
                    rw [List.take_of_length_le (by rw [HN.out]; omega), HRR.out] at h1
                    exact h1.symm
                  subst hgb
                  have HXE : Hid (Vi14 w3 s (j + 1) r U) := Lib.hid ⟨qs, N, (HT.out.1.old H.out.2).old HJ.out.1, HT.out.2⟩
                  clear HJ
                  go_wp2_with fail
                  go_roundw
                  case rel => exact ⟨j + 1, _, _, rfl, by omega, by omega, by go_num, rfl, HXE⟩
                  case measure => simp only [intOf]; omega
            | some l =>
              go_wp2_with fail
              refine HP2.out.mono ?_
              rintro e V2 hR2
              obtain ⟨v2, rfl, hrow2, hk2⟩ := hR2
              obtain ⟨a2, c2, rfl⟩ := row_sliceL hrow2
              have HL := Lib.hid (row_IsLs hrow2)
              have hln : l.length = n := by rw [← HN.out]; exact plsOf_length HRR.out
              have HLN := Lib.hid hln
              rw [hln]
              have HJ0 := Lib.hid (And.intro hk2 (KeptIn.refl (· < V2.heap.size) V2))
              clear HP2 hk2 hln hrow2
              go_wp2_with fail
              go_loopw [17, 18, 19, 20, 21] (fun g k _ _ _ wr => ∃ (t : Nat) (U : World), U = wr ∧ t ≤ n ∧ k = .int .i64 (t : Int) ∧ g = .bool true ∧ Hid (KeptIn (· < V1.heap.size) V1 U ∧ KeptIn (· < V2.heap.size) V2 U)) (fun _ k _ _ _ _ => n - (intOf k).toNat)
              case atStart => exact ⟨0, _, rfl, Nat.zero_le _, rfl, rfl, HJ0⟩
              case round =>
                obtain ⟨t, U, rfl, ht, rfl, rfl, HJ⟩ := hrel
                clear HJ0
                have t0 : (0 : Int) ≤ (t : Int) := by omega
                by_cases hlt3 : t < n
                · have t1 : (t : Int) < (n : Int) := by omega
                  have htl : t < ps.length := by rw [HN.out]; exact hlt3
                  have htl2 : t < l.length := by rw [HLN.out]; exact hlt3
                  have hps := H.out.1.old HJ.out.1
                  obtain ⟨b, off, rfl, hb, hc⟩ := hps.cells (by omega)
                  obtain ⟨c1, c2⟩ := hc t htl
                  have hkf := hps.fits ps[t] (List.getElem_mem htl)
                  rw [← keyAt_get htl, ← valAt_get htl] at hkf
                  have HRD := Lib.hid fun W => r14Read (keyAt ps t) (valAt ps t) hkf.1 hkf.2 W
                  rw [(plsOf_at HRR.out htl).1] at HRD
                  obtain ⟨b2, o2, rfl, hb2, hc2⟩ := HL.out.cells (by omega)
                  have hy := hc2 t htl2
                  have hgd : l.getD t pla0 = l[t] := by rw [List.getD_eq_getElem?_getD, List.getElem?_eq_getElem htl2]; rfl
                  rw [← hgd] at hy
                  obtain ⟨⟨i2, t2, s2⟩, hu⟩ : ∃ u, l.getD t pla0 = u := ⟨_, rfl⟩
                  rw [hu] at hy HRD
                  obtain ⟨kk, hkk⟩ : ∃ kk, keyAt ps t = kk := ⟨_, rfl⟩
                  obtain ⟨vv, hvv⟩ : ∃ vv, valAt ps t = vv := ⟨_, rfl⟩
                  rw [hkk] at c1 HRD
                  rw [hvv] at c2 HRD
                  unfold pairV ReadM at HRD
                  simp only [Option.getD_some, Option.isSome_some] at HRD
                  unfold spotV at HRD
                  simp only at HRD hy
                  have HNE := Lib.hid fun W => neqPl ⟨i2, t2, s2⟩ ⟨i2, t2, s2⟩ W
                  simp only [plaV, decide_true, Bool.not_true] at HNE
                  have HY := Lib.hid (And.intro hy hb2)
                  clear hc hkk hvv htl hkf hps hu hb htl2 hc2 hgd hy hb2
                  go_wp2_with fail
                  refine (HRD.out _).mono ?_
                  rintro e U2 ⟨rfl, hk2⟩
                  obtain ⟨U3, hU3⟩ : ∃ U3, U2.alloc (.cells #[.int .i64 t2, .int .i64 s2] 45) = U3 := ⟨_, rfl⟩
                  have a3 : KeptIn (· < U2.heap.size) U2 U3 := by rw [← hU3]; exact (KeptIn.refl _ U2).alloc (fun _ h => h) _
                  have b3 : BoxSp U2.heap.size t2 s2 U3 := by rw [← hU3]; exact BoxSp.new U2 t2 s2
                  have HJ2 := Lib.hid (And.intro ((HJ.out.1.go hk2).go a3) ((HJ.out.2.go hk2).go a3))
                  have HU3 := Lib.hid hU3
                  have e0 := b3.c0
                  have e1 := b3.c1
                  have y0 := (World.cell?_of_block (a := ⟨b2, o2 + t * 3, none⟩) (HJ2.out.2.block b2 HY.out.2)).trans HY.out.1.1
                  have y1 := (World.cell?_of_block (a := ⟨b2, o2 + t * 3 + 1, none⟩) (HJ2.out.2.block b2 HY.out.2)).trans HY.out.1.2.1
                  have y2 := (World.cell?_of_block (a := ⟨b2, o2 + t * 3 + 2, none⟩) (HJ2.out.2.block b2 HY.out.2)).trans HY.out.1.2.2
                  have n9 := HNE.out
                  clear HJ hk2 a3 hU3 c1 c2 HRD b3
                  go_upto_region 39 with fail
                  rw [HU3.out]
                  have t2' : ¬ (n : Int) ≤ (t : Int) := by omega
                  have t3' : decide ((n : Int) ≤ (t : Int)) = false := decide_eq_false t2'
                  have t4' : decide (n ≤ t) = false := decide_eq_false (by omega)
                  go_wp2_with fail
                  go_quiet (fail)
                  clear n9 y0 y1 y2 e0 e1 t2' t3' t4'
                  go_wp2_with fail
                  go_roundw
                  case rel => exact ⟨t + 1, _, rfl, by omega, by go_num, rfl, Lib.hid ⟨HJ2.out.1.go ((KeptIn.refl _ _).drewN nq), HJ2.out.2.go ((KeptIn.refl _ _).drewN nq)⟩⟩
                  case measure => simp only [intOf]; omega
                · have t1 : ¬ (t : Int) < (n : Int) := by omega
                  have HXE : Hid (Vi14 w3 s (j + 1) r U) := Lib.hid ⟨qs, N, (HT.out.1.old H.out.2).old HJ.out.1, HT.out.2⟩
                  clear HJ
                  go_wp2_with fail
                  go_roundw
                  case rel => exact ⟨j + 1, _, _, rfl, by omega, by omega, by go_num, rfl, HXE⟩
                  case measure => simp only [intOf]; omega
      · have d2 : ¬ (j : Int) < 40 := by omega
        have HKE := Lib.hid (HK3.out.1.go HJ.out.kw)
        clear HJ
        go_wp2_with fail
        go_ret
        exact ⟨rfl, HKE.out⟩
    · have d1 : ¬ (j : Int) < (len : Int) := by omega
      have HKE := Lib.hid (HK3.out.1.go HJ.out.kw)
      clear HJ
      go_wp2_with fail
      go_ret
      exact ⟨rfl, HKE.out⟩

end Go.Proofs.Ytdbanlifneomgaa
