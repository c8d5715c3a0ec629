/- TreeBuilds of layer 8: the walk: it returns true for every input and writes nothing that was there. -/
import Derived.Test.YtnmjnaajpgdlgaaAw8
import Derived.Test.YtnmjnaajpgdlgaaBm8
import Derived.Test.YtnmjnaajpgdlgaaNums
import Derived.Test.YtnmjnaajpgdlgaaRef5
import Derived.BigQuiet
import Derived.Deep.Cut
import Derived.Deep.CutBlock
set_option linter.unusedVariables false
namespace Go.Proofs.Ytnmjnaajpgdlgaa
open Go.RowKit

/-- Where the list stops rising, Build answers an error and leaves the Shelf. -/
def BuB (W : World) (s room : Nat) (e : Ending) (w' : World) : Prop := e = .returned (.tuple #[.int .i64 0, .int .i64 1]) ∧ KeptIn (· < W.heap.size) W w'

/-- Whether there was room. -/
def ErP (o : Option Nat) (p er : Nat) : Prop := match o with | some q => p = q ∧ er = 0 | none => p = 0 ∧ er = 6

theorem bui_num (room : Int) : ∃ r : Nat, r < 40 ∧ wrap64 ((IntKind.u64.wrap room).tmod 40) = (r : Int) := modWalk room 40 (by decide) (by decide)


set_option maxHeartbeats 16000000 in
set_option maxRecDepth 100000 in
theorem buiW (a : Option Addr) (len cap : Nat) (room : Int) (w : World) (w0 : IsPairs8 w a len cap) (w1 : (Lit.int .i64 room).wf = true) :
    Calls Try.prog 6 #[.slice a len cap, .int .i64 room] w fun e w' => e = .returned (.bool true) ∧ KeptIn (· < w.heap.size) w w' := by
  obtain ⟨ps, hlen, hps, hcap1, hcap2⟩ := w0
  have l0 := hps.len
  rw [hlen] at l0
  unfold maxLen at l0
  have b0 : (len : Int) ≤ 9223372036854775807 := by omega
  obtain ⟨rm, hr, hrw⟩ := bui_num room
  have HP := Lib.hid hps
  have HL := Lib.hid (And.intro hlen (And.intro hcap1 hcap2))
  clear hps hlen hcap1 hcap2 w1 l0
  by_cases hbig : 300 < len
  · have b1 : (300 : Int) < (len : Int) := by omega
    clear hrw
    go_enter Try.func6, Try.ntmps6
    go_wp2_with fail
    refine (awake8 w).mono ?_
    rintro e w3 ⟨rfl, k3⟩
    go_wp2_with fail
    go_ret
    exact ⟨rfl, k3⟩
  have b1 : (len : Int) ≤ 300 := by omega
  by_cases hrise : rises ps = true
  · have HR := Lib.hid hrise
    have hsrt := (rises_srt ps).1 hrise
    have h300 : ps.length ≤ 300 := by rw [HL.out.1]; omega
    have hkt : ∀ q ∈ ps, q.1 ≤ topH := fun q hq => by have := (HP.out.fits q hq).1; unfold topH; omega
    obtain ⟨nd, hnd⟩ : ∃ nd, needM ps.length ps.length = nd := ⟨_, rfl⟩
    have hnd30 := need_le ps.length h300
    obtain ⟨o, N', hM⟩ : ∃ o N', pileM (min rm 511) ps.length 0 ps [] = (o, N') := ⟨_, _, rfl⟩
    have hbo := build_ok (c := min rm 511) (by omega) h300 hsrt hkt hM
    rw [hnd] at hbo hnd30
    rw [show min rm 511 = rm by omega] at hbo
    have HBO := Lib.hid hbo
    have HND := Lib.hid hnd
    clear hsrt hkt hbo hnd hrise
    go_enter Try.func6, Try.ntmps6
    go_wp2_with fail
    refine (awake8 w).mono ?_
    rintro e w3 ⟨rfl, k3⟩
    obtain ⟨W, hW⟩ : ∃ W, w3.alloc (.cells #[.slice none 0 0, .int .i64 (rm : Int)] 28) = W := ⟨_, rfl⟩
    obtain ⟨hsh, -⟩ := tm_new w3 rm (by omega) W hW.symm
    have hkW : KeptIn (· < w3.heap.size) w3 W := by rw [← hW]; exact (KeptIn.refl _ w3).alloc (fun _ h => h) _
    obtain ⟨s, hs⟩ : ∃ s, w3.heap.size = s := ⟨_, rfl⟩
    rw [hs] at hsh
    have hsw : w.heap.size ≤ s := by rw [← hs]; exact k3.size
    have hpsW : IsPs W a ps := (HP.out.old k3).old hkW
    have HW := Lib.hid hW
    have HSE := Lib.hid hs
    have HK := Lib.hid (k3.go hkW)
    have hlo : ListOk2 W s a cap ps := ⟨hpsW, by rw [HL.out.1]; exact HL.out.2.1, HL.out.2.2, by
      rcases Nat.eq_zero_or_pos ps.length with h0 | h0
      · exact ⟨s + 1, 0, by omega, fun h => by omega⟩
      · obtain ⟨b, off, e, hb, _⟩ := HP.out.cells h0
        exact ⟨b, off, by omega, fun _ => e⟩⟩
    have hB := trBuild hsh cap a ps hlo (by omega) (by simp) HR.out
    rw [hM, HL.out.1] at hB
    have HB := Lib.hid hB
    have HX := Lib.hid (And.intro hsh hpsW)
    unfold pgV at HB
    clear hW hs hsh hkW hpsW k3 hlo hB hM
    go_wp2_with fail
    try rw [hrw]
    rw [HW.out]
    simp only [HSE.out]
    refine HB.out.mono ?_
    rintro e V ⟨⟨p, er, rfl, hm⟩, ha⟩
    replace ha : AddTo W s rm _ N' V := ha
    obtain ⟨D', a1, a2, a3⟩ := ha
    have hpsV : IsPs V a ps := by
      rcases Nat.eq_zero_or_pos ps.length with h0 | h0
      · exact ⟨HX.out.2.len, HX.out.2.fits, fun h => by omega⟩
      · refine psAt HX.out.2 a3 fun q e => ?_
        obtain ⟨b, off, e2, hb, _⟩ := HP.out.cells h0
        rw [e2] at e
        cases e
        exact ⟨Nat.lt_of_lt_of_le hb HK.out.size, by show b ≠ s; omega⟩
    have hkV : KeptIn (· < w.heap.size) w V := HK.out.trans (a3.mono fun k hk => ⟨Nat.lt_of_lt_of_le hk HK.out.size, by omega⟩)
    have HV := Lib.hid (And.intro hpsV (And.intro hkV a1))
    have HM : Hid (ErP o p er) := Lib.hid hm
    clear hpsV hkV a1 a2 a3 hm HX HB
    go_wp2_with fail
    go_loopw [8] (fun i wr => ∃ (j : Nat) (U : World), U = wr ∧ 1 ≤ j ∧ i = .int .i64 (j : Int) ∧ (j ≤ len ∨ j = 1) ∧ Hid (IsPs wr a ps ∧ KeptIn (· < w.heap.size) w wr ∧ IsSh wr s rm N' D')) (fun i _ => len + 1 - (intOf i).toNat)
    case atStart => exact ⟨1, _, rfl, Nat.le_refl _, rfl, .inr rfl, HV⟩
    case round =>
      clear HV
      obtain ⟨j, U, rfl, hj, rfl, hjn, HV⟩ := hrel
      by_cases hlt : j < len
      · have j1 : (j : Int) < (len : Int) := by omega
        have j0 : (0 : Int) ≤ (j : Int) := by omega
        obtain ⟨t, ht⟩ : ∃ t, j = t + 1 := ⟨j - 1, by omega⟩
        have hri := (rises_iff ps).1 HR.out t (by rw [HL.out.1]; omega)
        rw [← ht] at hri
        obtain ⟨b, off, rfl, hb, hc⟩ := HV.out.1.cells (by rw [HL.out.1]; omega)
        have e1 := (hc j (by rw [HL.out.1]; exact hlt)).1
        have e2 := (hc t (by rw [HL.out.1]; omega)).1
        obtain ⟨k1, hk1⟩ : ∃ k, keyAt ps j = k := ⟨_, rfl⟩
        obtain ⟨k2, hk2⟩ : ∃ k, keyAt ps t = k := ⟨_, rfl⟩
        rw [hk1] at e1 hri
        rw [hk2] at e2 hri
        have e3 : U.cell? ⟨b, off + (j - 1) * 2, none⟩ = some (.int .u64 (k2 : Int)) := by rw [show j - 1 = t by omega]; exact e2
        have e4 : U.cell? ⟨b, off + ((j : Int) - 1).toNat * 2, none⟩ = some (.int .u64 (k2 : Int)) := by rw [show ((j : Int) - 1).toNat = t by omega]; exact e2
        have j2 : (0 : Int) ≤ (j : Int) - 1 := by omega
        have j3 : (j : Int) - 1 < (len : Int) := by omega
        have g1 : ¬ (k1 : Int) ≤ (k2 : Int) := by omega
        have g2 : decide ((k1 : Int) ≤ (k2 : Int)) = false := decide_eq_false g1
        have g4 : ¬ k1 ≤ k2 := by omega
        have g3 : decide (k1 ≤ k2) = false := decide_eq_false g4
        clear hc hk1 hk2 ht e2 hri
        go_wp2_with fail
        go_quiet (fail)
        go_wp2_with fail
        go_roundw
        case rel => exact ⟨j + 1, _, rfl, by omega, by go_num, .inl (by omega), Lib.hid ⟨HV.out.1.old ((KeptIn.refl _ _).drewN nq), HV.out.2.1.drewN nq, HV.out.2.2.old ((KeptIn.refl _ _).drewN nq)⟩⟩
        case measure => simp only [intOf]; omega
      · have j1 : ¬ (j : Int) < (len : Int) := by omega
        have HN0 : Hid (0 + needM len len = nd) := Lib.hid (by have := HND.out; rw [HL.out.1] at this; omega)
        clear hlt hjn hj
        go_upto_block 2 with fail
        go_cut [9] from 13 (fun x wx => x = .int .i64 (nd : Int) ∧ Hid (IsPs wx a ps ∧ KeptIn (· < w.heap.size) w wx ∧ IsSh wx s rm N' D'))
        case first =>
          go_wp2_with fail
          go_loopw [9, 10] (fun x m wr => ∃ (q y : Nat) (U2 : World), U2 = wr ∧ wr = U ∧ m = .int .i64 (q : Int) ∧ x = .int .i64 (y : Int) ∧ q ≤ 300 ∧ y ≤ 30 ∧ Hid (y + needM q q = nd)) (fun _ m _ => (intOf m).toNat)
          case atStart => exact ⟨len, 0, _, rfl, by trivial, rfl, rfl, by omega, by omega, HN0⟩
          case round =>
            obtain ⟨q, y, U2, rfl, rfl, rfl, rfl, hq, hy, HQ⟩ := hrel
            rcases Nat.eq_zero_or_pos q with h0 | h0
            · have hyn : y = nd := by have := HQ.out; rw [h0] at this; simpa [needM] using this
              subst h0
              subst hyn
              go_wp2_with fail
              go_meet
              case rel => exact ⟨rfl, HV⟩
            · obtain ⟨q2, hq2⟩ : ∃ q2, partsOf 15 q = q2 := ⟨_, rfl⟩
              have hq3 : (q + 14) / 15 = q2 := by rw [← hq2]; rfl
              have m1 : (0 : Int) < (q : Int) := by omega
              have m2 : (q : Int) ≤ 300 := by omega
              have m3 : ((q : Int) + 14) / 15 = (q2 : Int) := by omega
              have m4 : ((q : Int) + 14).tdiv 15 = (q2 : Int) := by rw [Int.tdiv_eq_ediv_of_nonneg (by omega)]; exact m3
              have y0 : (0 : Int) ≤ (y : Int) := by omega
              have y1 : (y : Int) ≤ 30 := by omega
              have q20 : (0 : Int) ≤ (q2 : Int) := by omega
              have q21 : (q2 : Int) ≤ 20 := by omega
              by_cases h15 : q ≤ 15
              · have m5 : (q : Int) ≤ 15 := by omega
                have hyn : y + 1 = nd := by have := HQ.out; rw [need_small h0 h15] at this; exact this
                obtain rfl : q2 = 1 := by omega
                have HY := Lib.hid hyn
                clear hyn hq2 hq3 HQ hq hy
                go_wp2_with fail
                go_meet
                case rel => exact ⟨by have := HY.out; first | (rw [← this]; rfl) | (congr 1; omega), HV⟩
              · have m5 : ¬ (q : Int) ≤ 15 := by omega
                have HQ2 : Hid ((y + q2) + needM q2 q2 = nd) := Lib.hid (by have := HQ.out; rw [need_big h15, hq2] at this; omega)
                have hyb : y + q2 ≤ 30 := by have := HQ2.out; omega
                clear hq2 hq3 HQ hy
                go_wp2_with fail
                go_roundw
                case rel => exact ⟨q2, y + q2, _, rfl, by trivial, by first | rfl | go_num, by go_num, by omega, hyb, HQ2⟩
                case measure => simp only [intOf]; omega
        case rest =>
          obtain ⟨rfl, HV2⟩ := hcut
          clear HN0 HV
          have HV := HV2
          clear HV2
          obtain ⟨la, cp, hmem, -, -⟩ := HV.out.2.2.mem
          have c0 : wc.cell? ⟨s, 0, none⟩ = some (.slice la N'.length cp) := (cell_of_row _ _ 0 _ _ _ hmem).trans rfl
          have c1 : wc.cell? ⟨s, 1, none⟩ = some (.int .i64 (rm : Int)) := (cell_of_row _ _ 1 _ _ _ hmem).trans rfl
          have hsV : s < wc.heap.size := HV.out.2.2.lt s HV.out.2.2.ds
          by_cases hfit : nd ≤ rm
          · obtain ⟨r, lv, g, ho, hN, hT, hgn⟩ := HBO.out.2 hfit
            subst ho
            obtain ⟨rfl, rfl⟩ : p = r ∧ er = 0 := HM.out
            have f1 : (nd : Int) ≤ (rm : Int) := by omega
            have hra : rng 0 18446744073709551615 ps = ps := rng_all fun q hq => ⟨Nat.zero_le _, by have := (HP.out.fits q hq).1; omega⟩
            have hRG := trRange HV.out.2.2.len HV.out.2.2 0 18446744073709551615 (by decide) (by decide) hT (by omega)
            rw [hra] at hRG
            have HRG := Lib.hid hRG
            have HC0 := Lib.hid (And.intro c0 (And.intro hsV (And.intro hT (And.intro hgn hN))))
            unfold pgV at HRG
            clear hRG hra hmem hT hgn hN c0 hsV HM HBO hfit
            go_wp2_with fail
            refine HRG.out.mono ?_
            rintro e V2 hR
            unfold RngS at hR
            obtain ⟨vv, rfl, hrow, hfit2, hk2⟩ := hR
            obtain ⟨aL, cL, rfl, -⟩ := row_slice hrow
            have hps2 := row_IsPs hrow hfit2
            have hP := r5Pairs aL a cL cap ps ps V2 hps2 (HV.out.1.old hk2)
            rw [decide_eq_true rfl, HL.out.1] at hP
            have HPR := Lib.hid hP
            have HK2 := Lib.hid hk2
            rw [HL.out.1]
            clear hP hps2 hrow hfit2 hk2 HRG
            go_wp2_with fail
            refine HPR.out.mono ?_
            rintro e V3 ⟨rfl, hk3⟩
            have HK3 := Lib.hid (HK2.out.go hk3)
            have hCk := trCheck HV.out.2.2.len (HV.out.2.2.old HK3.out) HC0.out.2.2.1 HC0.out.2.2.2.1
            have HCk := Lib.hid hCk
            unfold pgV at HCk
            clear hk3 hCk HPR
            go_wp2_with fail
            refine HCk.out.mono ?_
            rintro e V4 ⟨rfl, hk4⟩
            have hk5 := HK3.out.go hk4
            have d0 : V4.cell? ⟨s, 0, none⟩ = some (.slice la nd cp) := by
              have := (World.cell?_of_block (a := ⟨s, 0, none⟩) (hk5.block s HC0.out.2.1)).trans HC0.out.1
              rw [HC0.out.2.2.2.2] at this
              exact this
            have HE := Lib.hid (HV.out.2.1.go hk5)
            clear hk4 hk5 HCk
            go_wp2_with fail
            go_ret
            exact ⟨rfl, HE.out⟩
          · have ho := HBO.out.1 (by omega)
            subst ho
            obtain ⟨rfl, rfl⟩ : p = 0 ∧ er = 6 := HM.out
            have f1 : ¬ (nd : Int) ≤ (rm : Int) := by omega
            have f2 : (rm : Int) < (nd : Int) := by omega
            clear hmem hsV HM HBO hfit
            go_wp2_with fail
            go_ret
            exact ⟨rfl, HV.out.2.1⟩
  · rw [Bool.not_eq_true] at hrise
    have HR := Lib.hid hrise
    clear hrise
    go_enter Try.func6, Try.ntmps6
    go_wp2_with fail
    refine (awake8 w).mono ?_
    rintro e w3 ⟨rfl, k3⟩
    obtain ⟨W, hW⟩ : ∃ W, w3.alloc (.cells #[.slice none 0 0, .int .i64 (rm : Int)] 28) = W := ⟨_, rfl⟩
    obtain ⟨hsh, -⟩ := tm_new w3 rm (by omega) W hW.symm
    have hkW : KeptIn (· < w3.heap.size) w3 W := by rw [← hW]; exact (KeptIn.refl _ w3).alloc (fun _ h => h) _
    obtain ⟨s, hs⟩ : ∃ s, w3.heap.size = s := ⟨_, rfl⟩
    rw [hs] at hsh
    have hsw : w.heap.size ≤ s := by rw [← hs]; exact k3.size
    have hpsW : IsPs W a ps := (HP.out.old k3).old hkW
    have HW := Lib.hid hW
    have HSE := Lib.hid hs
    have HK := Lib.hid (k3.go hkW)
    have HB := Lib.hid (trBuildBad s cap a ps hpsW HR.out)
    rw [HL.out.1] at HB
    have HX := Lib.hid (And.intro hsh hpsW)
    unfold pgV at HB
    clear hW hs hsh hkW hpsW k3
    go_wp2_with fail
    try rw [hrw]
    rw [HW.out]
    simp only [HSE.out]
    refine HB.out.mono ?_
    rintro e V ⟨rfl, hk⟩
    obtain ⟨la, cp, hm1, hm2, -⟩ := (HX.out.1.old hk).mem
    obtain ⟨rfl, rfl⟩ := hm2 rfl
    have c0 : V.cell? ⟨s, 0, none⟩ = some (.slice none 0 0) := (cell_of_row _ _ 0 _ _ _ hm1).trans rfl
    have HV : Hid (IsPs V a ps ∧ KeptIn (· < w.heap.size) w V ∧ V.cell? ⟨s, 0, none⟩ = some (.slice none 0 0)) := Lib.hid ⟨HX.out.2.old hk, HK.out.go hk, c0⟩
    clear hm1 hm2 hk HX c0
    go_wp2_with fail
    go_loopw [8] (fun i wr => ∃ (j : Nat) (U : World), U = wr ∧ 1 ≤ j ∧ i = .int .i64 (j : Int) ∧ (j ≤ len ∨ j = 1) ∧ Hid (IsPs wr a ps ∧ KeptIn (· < w.heap.size) w wr ∧ wr.cell? ⟨s, 0, none⟩ = some (.slice none 0 0)) ∧ Hid (∀ t, t + 1 < j → keyAt ps t < keyAt ps (t + 1))) (fun i _ => len + 1 - (intOf i).toNat)
    case atStart => exact ⟨1, _, rfl, Nat.le_refl _, rfl, .inr rfl, HV, Lib.hid fun t h => absurd h (by omega)⟩
    case round =>
      clear HV
      obtain ⟨j, U, rfl, hj, rfl, hjn, HV, HJ⟩ := hrel
      by_cases hlt : j < len
      · have j1 : (j : Int) < (len : Int) := by omega
        have j0 : (0 : Int) ≤ (j : Int) := by omega
        obtain ⟨t, ht⟩ : ∃ t, j = t + 1 := ⟨j - 1, by omega⟩
        obtain ⟨b, off, rfl, hb, hc⟩ := HV.out.1.cells (by rw [HL.out.1]; omega)
        have e1 := (hc j (by rw [HL.out.1]; exact hlt)).1
        have e2 := (hc t (by rw [HL.out.1]; omega)).1
        obtain ⟨k1, hk1⟩ : ∃ k, keyAt ps j = k := ⟨_, rfl⟩
        obtain ⟨k2, hk2⟩ : ∃ k, keyAt ps t = k := ⟨_, rfl⟩
        rw [hk1] at e1
        rw [hk2] at e2
        have e3 : U.cell? ⟨b, off + (j - 1) * 2, none⟩ = some (.int .u64 (k2 : Int)) := by rw [show j - 1 = t by omega]; exact e2
        have e4 : U.cell? ⟨b, off + ((j : Int) - 1).toNat * 2, none⟩ = some (.int .u64 (k2 : Int)) := by rw [show ((j : Int) - 1).toNat = t by omega]; exact e2
        have HKK := Lib.hid (And.intro hk1 (And.intro hk2 ht))
        have j2 : (0 : Int) ≤ (j : Int) - 1 := by omega
        have j3 : (j : Int) - 1 < (len : Int) := by omega
        clear hc hk1 hk2 ht e2
        by_cases hge : k1 ≤ k2
        · have g1 : (k1 : Int) ≤ (k2 : Int) := by omega
          clear HJ hjn
          go_wp2_with fail
          go_quiet (fail)
          have c0 : (U.drewN nq).cell? ⟨s, 0, none⟩ = some (.slice none 0 0) := HV.out.2.2
          go_wp2_with fail
          go_ret
          exact ⟨rfl, HV.out.2.1.drewN nq⟩
        · have g1 : ¬ (k1 : Int) ≤ (k2 : Int) := by omega
          have g2 : decide ((k1 : Int) ≤ (k2 : Int)) = false := decide_eq_false g1
          have g3 : decide (k1 ≤ k2) = false := decide_eq_false hge
          have HJ2 : Hid (∀ t, t + 1 < j + 1 → keyAt ps t < keyAt ps (t + 1)) := Lib.hid fun u hu => by
            rcases Nat.lt_or_ge (u + 1) j with h | h
            · exact HJ.out u h
            · obtain ⟨h1, h2, h3⟩ := HKK.out
              have : u + 1 = j := by omega
              rw [this, h1, show u = t by omega, h2]
              omega
          clear HJ
          go_wp2_with fail
          go_quiet (fail)
          go_wp2_with fail
          go_roundw
          case rel => exact ⟨j + 1, _, rfl, by omega, by go_num, .inl (by omega), Lib.hid ⟨HV.out.1.old ((KeptIn.refl _ _).drewN nq), HV.out.2.1.drewN nq, HV.out.2.2⟩, HJ2⟩
          case measure => simp only [intOf]; omega
      · exfalso
        have hr2 : rises ps = true := (rises_iff ps).2 fun i hi => HJ.out i (by rw [HL.out.1] at hi; omega)
        rw [HR.out] at hr2
        cases hr2

end Go.Proofs.Ytnmjnaajpgdlgaa
