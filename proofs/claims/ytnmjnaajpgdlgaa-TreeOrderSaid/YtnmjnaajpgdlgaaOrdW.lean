/- TreeOrder of layer 8: the walk: it returns true for every input and writes nothing that was there. -/
import Derived.Test.YtnmjnaajpgdlgaaAw8
import Derived.Test.YtnmjnaajpgdlgaaOr8
import Derived.Test.YtnmjnaajpgdlgaaNums
import Derived.BigQuiet
set_option linter.unusedVariables false
namespace Go.Proofs.Ytnmjnaajpgdlgaa
open Go.RowKit

theorem ord_num (st a j : Nat) (hst : st < 41) (ha : a ≤ 40) (hj : j < 40) : ∃ m q : Nat, a * j = m ∧ m ≤ 1600 ∧ (a : Int) * (j : Int) = (m : Int) ∧ wrap64 ((a : Int) * (j : Int)) = (m : Int) ∧ keyO st a j = q ∧ q ≤ 40 ∧ wrap64 ((st : Int) + (m : Int)) = ((st + m : Nat) : Int) ∧ ((st + m : Nat) : Int).tmod 41 = (q : Int) ∧ ((st + m : Nat) : Int) % 41 = (q : Int) ∧ ((st : Int) + (m : Int)) % 41 = (q : Int) ∧ ((st : Int) + (m : Int)).tmod 41 = (q : Int) ∧ IntKind.u64.wrap (q : Int) = (q : Int) ∧ IntKind.u64.wrap (2 * (q : Int)) = ((2 * q : Nat) : Int) := by
  have h1 : a * j ≤ 1600 := Nat.le_trans (Nat.mul_le_mul ha (Nat.le_of_lt hj)) (by decide)
  have h2 : (a : Int) * (j : Int) = ((a * j : Nat) : Int) := by rw [Int.natCast_mul]
  obtain ⟨m, hm⟩ : ∃ m, a * j = m := ⟨_, rfl⟩
  rw [hm] at h1 h2
  have hq : keyO st a j = (st + m) % 41 := by unfold keyO; rw [hm]
  have e1 : ((st + m : Nat) : Int) % 41 = (((st + m) % 41 : Nat) : Int) := by omega
  refine ⟨m, (st + m) % 41, hm, h1, h2, ?_, hq, by omega, by unfold wrap64; omega, ?_, e1, by omega, ?_, by rw [IntKind.wrap_u64]; omega, by rw [IntKind.wrap_u64]; omega⟩
  · rw [h2]; unfold wrap64; omega
  · rw [Int.tmod_eq_emod_of_nonneg (by omega)]; exact e1
  · rw [Int.tmod_eq_emod_of_nonneg (by omega)]; omega

theorem ord_num2 (b i : Nat) (hb : b ≤ 40) (hi : i ≤ 40) : ∃ m q : Nat, m ≤ 1600 ∧ (b : Int) * (i : Int) = (m : Int) ∧ wrap64 ((b : Int) * (i : Int)) = (m : Int) ∧ (b * i) % 41 = q ∧ q ≤ 40 ∧ (m : Int).tmod 41 = (q : Int) ∧ (m : Int) % 41 = (q : Int) ∧ IntKind.u64.wrap (q : Int) = (q : Int) := by
  have h1 : b * i ≤ 1600 := Nat.le_trans (Nat.mul_le_mul hb hi) (by decide)
  have h2 : (b : Int) * (i : Int) = ((b * i : Nat) : Int) := by rw [Int.natCast_mul]
  obtain ⟨m, hm⟩ : ∃ m, b * i = m := ⟨_, rfl⟩
  rw [hm] at h1 h2
  refine ⟨m, m % 41, h1, h2, ?_, by rw [hm], by omega, ?_, by omega, by rw [IntKind.wrap_u64]; omega⟩
  · rw [h2]; unfold wrap64; omega
  · rw [Int.tmod_eq_emod_of_nonneg (by omega)]; omega


set_option maxHeartbeats 16000000 in
set_option maxRecDepth 100000 in
theorem ordW (start step n back : Int) (w : World) (w0 : (Lit.int .i64 start).wf = true) (w1 : (Lit.int .i64 step).wf = true) (w2 : (Lit.int .i64 n).wf = true) (w3 : (Lit.int .i64 back).wf = true) :
    Calls Try.prog 5 #[.int .i64 start, .int .i64 step, .int .i64 n, .int .i64 back] w fun e w' => e = .returned (.bool true) ∧ KeptIn (· < w.heap.size) w w' := by
  obtain ⟨st, hst, hst1⟩ : ∃ k : Nat, k < 41 ∧ wrap64 ((IntKind.u64.wrap start).tmod 41) = (k : Int) := modWalk start 41 (by decide) (by decide)
  obtain ⟨k0, hk0, hk1⟩ : ∃ k : Nat, k < 40 ∧ wrap64 ((IntKind.u64.wrap n).tmod 40) = (k : Int) := modWalk n 40 (by decide) (by decide)
  obtain ⟨a0, ha0, ha1⟩ : ∃ k : Nat, k < 40 ∧ wrap64 ((IntKind.u64.wrap step).tmod 40) = (k : Int) := modWalk step 40 (by decide) (by decide)
  obtain ⟨b0, hb0, hb1⟩ : ∃ k : Nat, k < 40 ∧ wrap64 ((IntKind.u64.wrap back).tmod 40) = (k : Int) := modWalk back 40 (by decide) (by decide)
  obtain ⟨k, hk⟩ : ∃ k, k0 + 1 = k := ⟨_, rfl⟩
  obtain ⟨a, ha⟩ : ∃ a, a0 + 1 = a := ⟨_, rfl⟩
  obtain ⟨b, hb⟩ : ∃ b, b0 + 1 = b := ⟨_, rfl⟩
  have hk2 : wrap64 (1 + wrap64 ((IntKind.u64.wrap n).tmod 40)) = (k : Int) := by rw [hk1]; unfold wrap64; omega
  have ha2 : wrap64 (1 + wrap64 ((IntKind.u64.wrap step).tmod 40)) = (a : Int) := by rw [ha1]; unfold wrap64; omega
  have hb2 : wrap64 (1 + wrap64 ((IntKind.u64.wrap back).tmod 40)) = (b : Int) := by rw [hb1]; unfold wrap64; omega
  have kb : 1 ≤ k ∧ k ≤ 40 := by omega
  have ab : 1 ≤ a ∧ a ≤ 40 := by omega
  have bb : 1 ≤ b ∧ b ≤ 40 := by omega
  have HNUM := Lib.hid (And.intro kb (And.intro ab (And.intro bb hst)))
  have HF := Lib.hid (And.intro hk2 (And.intro ha2 (And.intro hb2 hst1)))
  clear hk1 ha1 hb1 hk ha hb hk0 ha0 hb0 hk2 ha2 hb2 hst1 w0 w1 w2 w3 ab bb
  have kI : (k : Int) ≤ 40 := by omega
  go_enter Try.func5, Try.ntmps5
  go_wp2_with fail
  refine (awake8 w).mono ?_
  rintro e w3 ⟨rfl, k3⟩
  obtain ⟨W, hW⟩ : ∃ W, w3.alloc (.cells #[.slice none 0 0, .int .i64 511] 28) = W := ⟨_, rfl⟩
  obtain ⟨-, h1⟩ := tm_new w3 511 (by decide) W hW.symm
  obtain ⟨s, hs⟩ : ∃ s, w3.heap.size = s := ⟨_, rfl⟩
  rw [hs] at h1
  have hsw : w.heap.size ≤ s := by rw [← hs]; exact k3.size
  have HT : Hid (TrM w3 s 511 0 [] 8 0 W ∧ KeptIn (· < w.heap.size) w w3 ∧ w3.heap.size = s) := Lib.hid ⟨h1, k3, hs⟩
  have HW := Lib.hid hW
  have HSE := Lib.hid hs
  clear hW hs h1 k3
  go_wp2_with fail
  rw [HF.out.1, HF.out.2.1, HF.out.2.2.1, HW.out]
  simp only [HSE.out]
  have HI0 : Hid (TrM w3 s 511 0 [] (8 + 0) (5 * 0) W ∧ OrI st a 0 []) := Lib.hid ⟨HT.out.1, OrI.zero st a⟩
  clear hst kb
  go_loopw [11, 14, 15, 16, 17] (fun r i _ _ _ wr => ∃ (j root : Nat) (V : World) (qs : Pairs), V = wr ∧ j ≤ k ∧ i = .int .i64 (j : Int) ∧ r = .int .i64 (root : Int) ∧ Hid (TrM w3 s 511 root qs (8 + j) (5 * j) V ∧ OrI st a j qs)) (fun _ i _ _ _ _ => k - (intOf i).toNat)
  case atStart => exact ⟨0, 0, _, [], rfl, Nat.zero_le _, rfl, rfl, HI0⟩
  case round =>
    obtain ⟨j, root, V, qs, rfl, hj, rfl, rfl, HJ⟩ := hrel
    clear HI0
    have hk40 := HNUM.out.1.2
    by_cases hlt : j < k
    · have i1 : (j : Int) < (k : Int) := by omega
      have i0 : (0 : Int) ≤ (j : Int) := by omega
      obtain ⟨m, q, n1, n2, n3, n4, n5, n6, n7, n8, n9, n10, n11, n12, n13⟩ := ord_num st a j HNUM.out.2.2.2 HNUM.out.2.1.2 (by omega)
      have hst := HF.out.2.2.2
      have HC := Lib.hid (tmPut (k := q) (v := 2 * q) HJ.out.1 (by omega) (by omega) (by omega) (by omega) (by omega))
      have HO : Hid (OrI st a (j + 1) (chg [(q, 2 * q)] q qs)) := Lib.hid (by have := HJ.out.2.next HNUM.out.2.1.1 HNUM.out.2.1.2 (show j ≤ 40 by omega); rw [n5] at this; exact this)
      have hst41 : (st : Int) ≤ 40 := by have := HNUM.out.2.2.2; omega
      have hst0 : (0 : Int) ≤ (st : Int) := by omega
      have hm0 : (0 : Int) ≤ (m : Int) := by omega
      have hm1 : (m : Int) ≤ 1600 := by omega
      have hq1 : (q : Int) ≤ 40 := by omega
      have hq0 : (0 : Int) ≤ (q : Int) := by omega
      unfold pgV at HC
      obtain ⟨v, hv⟩ : ∃ v, 2 * q = v := ⟨_, rfl⟩
      rw [hv] at HC HO n13
      clear n1 n2 n5 n6 hv HJ hk40
      go_wp2_with fail
      refine HC.out.mono ?_
      rintro e V2 hR
      unfold PutR at hR
      obtain ⟨r, rfl, hT, -⟩ := hR
      have HJ2 : Hid (TrM w3 s 511 r (chg [(q, v)] q qs) (8 + (j + 1)) (5 * (j + 1)) V2 ∧ OrI st a (j + 1) (chg [(q, v)] q qs)) := Lib.hid ⟨hT.mono (by omega) (by omega), HO.out⟩
      clear hT HO HC
      go_wp2_with fail
      go_roundw
      case rel => exact ⟨j + 1, _, _, _, rfl, by omega, by go_num, rfl, HJ2⟩
      case measure => simp only [intOf]; omega
    · obtain rfl : j = k := by omega
      have i1 : ¬ (j : Int) < (j : Int) := by omega
      have hlen := HJ.out.2.len
      have HRG : Hid (Calls Try.prog 14 #[.iface 24 (.pointer (some ⟨s, 0, none⟩)), .int .i64 (root : Int), .int .u64 0, .int .u64 100] V (RngS V qs)) := Lib.hid (by
        have := tmRange HJ.out.1 0 100 (by decide) (by decide) (by rw [hlen]; omega)
        rw [rng_orI HJ.out.2] at this
        exact this)
      clear hlt hj
      go_wp2_with fail
      refine HRG.out.mono ?_
      rintro e V2 hR
      unfold RngS at hR
      obtain ⟨vv, rfl, hrow, hfit, hkk⟩ := hR
      obtain ⟨aL, cL, rfl, hcap⟩ := row_slice hrow
      have hps := row_IsPs hrow hfit
      obtain ⟨b', off', rfl, -⟩ := hps.cells (by rw [hlen]; exact HNUM.out.1.1)
      obtain ⟨g, hg⟩ := hcap.2.2.2 _ rfl
      rw [hg] at hrow hps ⊢
      have hsg : s < g := Nat.lt_of_lt_of_le HJ.out.1.slt (rowS_lt hrow g rfl).1
      rw [hlen] at hrow ⊢
      have HQ : Hid (TrM w3 s 511 root qs (8 + j) (5 * j) V2 ∧ IsPs V2 (some ⟨g, 0, none⟩) qs ∧ g < V2.heap.size) := Lib.hid ⟨HJ.out.1.old hkk, hps, (rowS_lt hrow g rfl).2⟩
      have HO := Lib.hid (And.intro HJ.out.2 (And.intro HJ.out.1.srt (And.intro hsg hlen)))
      clear hrow hps hcap hfit hkk hg HJ hsg hlen HRG
      go_wp2_with fail
      go_loopw [20, 21, 22, 23] (fun i _ _ _ wr => ∃ (t : Nat) (U : World), U = wr ∧ t ≤ j ∧ i = .int .i64 (t : Int) ∧ Hid (TrM w3 s 511 root qs (8 + j) (5 * j) U ∧ IsPs U (some ⟨g, 0, none⟩) qs ∧ g < U.heap.size)) (fun i _ _ _ _ => j - (intOf i).toNat)
      case atStart => exact ⟨0, _, rfl, Nat.zero_le _, rfl, HQ⟩
      case round =>
        obtain ⟨t, U, rfl, ht, rfl, HU⟩ := hrel
        clear HQ
        by_cases hlt : t < j
        · have t1 : (t : Int) < (j : Int) := by omega
          have t0 : (0 : Int) ≤ (t : Int) := by omega
          have htl : t < qs.length := by rw [HO.out.2.2.2]; exact hlt
          obtain ⟨c1, c2⟩ := psG HU.out.2.1 htl
          obtain ⟨v1, v2, -⟩ := HO.out.1.val qs[t] (List.getElem_mem htl)
          have hmem : (keyAt qs t, 2 * keyAt qs t) ∈ qs := by
            rw [keyAt_get htl, ← v1]
            exact List.getElem_mem htl
          rw [← valAt_get htl, ← keyAt_get htl] at v1
          rw [← keyAt_get htl] at v2
          have HC := Lib.hid (tmGet HU.out.1 (by omega) hmem)
          have hprev : ∀ u, t = u + 1 → keyAt qs u < keyAt qs t := fun u e => by
            have := rises_lt ((rises_srt _).2 HO.out.2.1) (show u < t by omega) htl
            exact this
          have HP := Lib.hid hprev
          rw [v1] at c2
          obtain ⟨q, hq⟩ : ∃ q, keyAt qs t = q := ⟨_, rfl⟩
          rw [hq] at c1 c2 HC v2
          have HQE := Lib.hid hq
          have q0 : (0 : Int) ≤ (q : Int) := by omega
          have q1 : (q : Int) ≤ 40 := by omega
          have q2 : IntKind.u64.wrap (2 * (q : Int)) = ((2 * q : Nat) : Int) := by rw [IntKind.wrap_u64]; omega
          unfold pgV at HC
          obtain ⟨v, hv⟩ : ∃ v, 2 * q = v := ⟨_, rfl⟩
          rw [hv] at c2 HC q2
          clear v1 v2 hmem hprev hq htl hv
          go_wp2_with fail
          refine HC.out.mono ?_
          rintro e U2 ⟨rfl, hk2⟩
          have HU2 := Lib.hid (And.intro (HU.out.1.old hk2) (And.intro (HU.out.2.1.old hk2) (Nat.lt_of_lt_of_le HU.out.2.2 hk2.size)))
          have e1 : U2.cell? ⟨g, t * 2, none⟩ = some (.int .u64 (q : Int)) := (World.cell?_of_block (a := ⟨g, t * 2, none⟩) (hk2.block g HU.out.2.2)).trans c1
          have e2 : U2.cell? ⟨g, t * 2 + 1, none⟩ = some (.int .u64 (v : Int)) := (World.cell?_of_block (a := ⟨g, t * 2 + 1, none⟩) (hk2.block g HU.out.2.2)).trans c2
          clear c1 c2 hk2 HC
          go_wp2_with fail
          have hvv : (v != v) = false := by simp
          rcases Nat.eq_zero_or_pos t with h0 | h0
          · have z1 : ¬ (0 : Int) < (t : Int) := by omega
            have z2 : decide ((0 : Int) < (t : Int)) = false := decide_eq_false z1
            have z3 : decide (0 < t) = false := decide_eq_false (by omega)
            have z4 : ¬ 0 < t := by omega
            clear HP h0
            go_quiet (fail)
            go_wp2_with fail
            go_roundw
            case rel => exact ⟨t + 1, _, rfl, by omega, by go_num, Lib.hid ⟨HU2.out.1.old ((KeptIn.refl _ _).drewN nq), HU2.out.2.1.old ((KeptIn.refl _ _).drewN nq), HU2.out.2.2⟩⟩
            case measure => simp only [intOf]; omega
          · obtain ⟨u, hu⟩ : ∃ u, t = u + 1 := ⟨t - 1, by omega⟩
            have hul : u < qs.length := by rw [HO.out.2.2.2]; omega
            have e3 := (psG HU2.out.2.1 hul).1
            have hlt2 := HP.out u hu
            rw [HQE.out] at hlt2
            obtain ⟨p, hp⟩ : ∃ p, keyAt qs u = p := ⟨_, rfl⟩
            rw [hp] at e3 hlt2
            have z1 : (0 : Int) < (t : Int) := by omega
            have e4 : U2.cell? ⟨g, (t - 1) * 2, none⟩ = some (.int .u64 (p : Int)) := by rw [show t - 1 = u by omega]; exact e3
            have e5 : U2.cell? ⟨g, ((t : Int) - 1).toNat * 2, none⟩ = some (.int .u64 (p : Int)) := by rw [show ((t : Int) - 1).toNat = u by omega]; exact e3
            have z3 : (0 : Int) ≤ (u : Int) := by omega
            have z4 : (u : Int) < (j : Int) := by omega
            have z5 : ¬ (q : Int) ≤ (p : Int) := by omega
            have z6 : decide ((q : Int) ≤ (p : Int)) = false := decide_eq_false z5
            have z7 : decide (q ≤ p) = false := decide_eq_false (by omega)
            have z8 : ¬ q ≤ p := by omega
            have z9 : decide (0 < t) = true := decide_eq_true (by omega)
            have z10 : decide ((0 : Int) < (t : Int)) = true := decide_eq_true (by omega)
            have z11 : u < j := by omega
            clear hp hul hlt2 hu HP
            go_quiet (fail)
            go_wp2_with fail
            go_roundw
            case rel => exact ⟨t + 1, _, rfl, by omega, by go_num, Lib.hid ⟨HU2.out.1.old ((KeptIn.refl _ _).drewN nq), HU2.out.2.1.old ((KeptIn.refl _ _).drewN nq), HU2.out.2.2⟩⟩
            case measure => simp only [intOf]; omega
        · obtain rfl : t = j := by omega
          have u1 : ¬ (t : Int) < (t : Int) := by omega
          have HD0 : Hid (TrM w3 s 511 root (drO b qs 0) (8 + t) 511 U ∧ IsPs U (some ⟨g, 0, none⟩) qs ∧ g < U.heap.size) := Lib.hid ⟨by rw [drO_zero]; exact HU.out.1.mono (Nat.le_refl _) (by omega), HU.out.2⟩
          clear hlt ht HU
          go_wp2_with fail
          go_loopw [11, 24, 25, 26, 27, 28, 29] (fun r i _ _ _ _ _ wr => ∃ (d root : Nat) (U : World), U = wr ∧ d ≤ 41 ∧ i = .int .i64 (d : Int) ∧ r = .int .i64 (root : Int) ∧ Hid (TrM w3 s 511 root (drO b qs d) (8 + t) 511 U ∧ IsPs U (some ⟨g, 0, none⟩) qs ∧ g < U.heap.size)) (fun _ i _ _ _ _ _ _ => 41 - (intOf i).toNat)
          case atStart => exact ⟨0, _, _, rfl, by omega, rfl, rfl, HD0⟩
          case round =>
            obtain ⟨d, root, U, rfl, hd, rfl, rfl, HU⟩ := hrel
            clear HD0
            by_cases hlt : d < 41
            · have d1 : (d : Int) < 41 := by omega
              have d0 : (0 : Int) ≤ (d : Int) := by omega
              obtain ⟨m, q, n1, n2, n3, n4, n5, n6, n7, n8⟩ := ord_num2 b d HNUM.out.2.2.1.2 (by omega)
              have HC := Lib.hid (tmDrop (k := q) HU.out.1 (by omega))
              have HM := drO_mem (Q := qs) HNUM.out.2.2.1.1 HNUM.out.2.2.1.2 (show d ≤ 40 by omega)
              have HS2 := drO_succ HU.out.1.srt
              rw [n4] at HM HS2
              have HMS := Lib.hid (And.intro HM HS2)
              have m0 : (0 : Int) ≤ (m : Int) := by omega
              have m1 : (m : Int) ≤ 1600 := by omega
              have q0 : (0 : Int) ≤ (q : Int) := by omega
              have q1 : (q : Int) ≤ 40 := by omega
              unfold pgV at HC
              clear n1 n4 n5 HM HS2
              go_wp2_with fail
              refine HC.out.mono ?_
              rintro e U2 hR
              unfold DrpR at hR
              obtain ⟨r, er, bb, rfl, hfr, hor⟩ := hR
              have hkU : KeptIn (· < w.heap.size) w U2 := by
                have h1 := HT.out.2.1.trans (HU.out.1.kept.mono fun x hx => Nat.lt_of_lt_of_le hx HT.out.2.1.size)
                exact h1.trans (hfr.mono fun x hx => ⟨Nat.lt_of_lt_of_le hx h1.size, by omega⟩)
              have hgs : g ≠ s := by have := HO.out.2.2.1; omega
              have hps2 : IsPs U2 (some ⟨g, 0, none⟩) qs := psAt HU.out.2.1 hfr (fun p e => by cases e; exact ⟨HU.out.2.2, hgs⟩)
              have hg2 : g < U2.heap.size := Nat.lt_of_lt_of_le HU.out.2.2 hfr.size
              have HKU := Lib.hid hkU
              rcases hor with rfl | ⟨rfl, hb, hT⟩
              · clear hfr hkU hps2 hg2 hgs HC
                go_wp2_with fail
                go_ret
                exact ⟨rfl, HKU.out⟩
              · rw [HMS.out.2] at hT
                have hbb : bb = qs.any (fun p => p.1 == q) := Bool.eq_iff_iff.2 (hb.trans HMS.out.1)
                have HB := Lib.hid hbb
                have HX := Lib.hid (And.intro hT (And.intro hps2 hg2))
                clear hfr hkU hps2 hg2 hgs HC hb hT HU hbb
                go_wp2_with fail
                go_loopw [28, 29] (fun h i wr => ∃ (x : Nat) (hb : Bool) (X : World), X = wr ∧ wr = U2 ∧ x ≤ t ∧ i = .int .i64 (x : Int) ∧ h = .bool hb ∧ Hid (hb = (qs.take x).any (fun p => p.1 == q))) (fun _ i _ => t - (intOf i).toNat)
                case atStart => exact ⟨0, false, _, rfl, by trivial, Nat.zero_le _, rfl, rfl, Lib.hid rfl⟩
                case round =>
                  obtain ⟨x, hb, X, rfl, rfl, hx, rfl, rfl, HH⟩ := hrel
                  by_cases hxt : x < t
                  · have x1 : (x : Int) < (t : Int) := by omega
                    have x0 : (0 : Int) ≤ (x : Int) := by omega
                    have hxl : x < qs.length := by rw [HO.out.2.2.2]; exact hxt
                    obtain ⟨c1, -⟩ := psG HX.out.2.1 hxl
                    have hs := any_succ qs q x hxl
                    rw [← HH.out] at hs
                    obtain ⟨kk, hkk⟩ : ∃ kk, keyAt qs x = kk := ⟨_, rfl⟩
                    rw [hkk] at c1 hs
                    have HS3 := Lib.hid hs
                    clear hkk hs hxl HH
                    cases hb with
                    | true =>
                      go_wp2_with fail
                      go_roundw
                      case rel => exact ⟨x + 1, true, _, rfl, by trivial, by omega, by go_num, rfl, Lib.hid (by rw [HS3.out]; rfl)⟩
                      case measure => simp only [intOf]; omega
                    | false =>
                      by_cases hkq : kk = q
                      · have b1 : ((kk : Int) == (q : Int)) = true := by rw [hkq]; simp
                        have b2 : (kk == q) = true := by rw [hkq]; simp
                        go_wp2_with fail
                        go_roundw
                        case rel => exact ⟨x + 1, true, _, rfl, by trivial, by omega, by go_num, by first | rfl | (rw [hkq]; simp), Lib.hid (by rw [HS3.out, b2]; rfl)⟩
                        case measure => simp only [intOf]; omega
                      · have b1 : ((kk : Int) == (q : Int)) = false := by rw [beq_eq_false_iff_ne]; omega
                        have b2 : (kk == q) = false := by rw [beq_eq_false_iff_ne]; exact hkq
                        go_wp2_with fail
                        go_roundw
                        case rel => exact ⟨x + 1, false, _, rfl, by trivial, by omega, by go_num, by first | rfl | simp [b1, b2], Lib.hid (by rw [HS3.out, b2]; rfl)⟩
                        case measure => simp only [intOf]; omega
                  · have x1 : ¬ (x : Int) < (t : Int) := by omega
                    have hbb : hb = bb := by rw [HH.out, HB.out, List.take_of_length_le (by rw [HO.out.2.2.2]; omega)]
                    subst hbb
                    clear HH HB hx hxt
                    go_wp2_with fail
                    go_roundw
                    case rel => exact ⟨d + 1, _, _, rfl, by omega, by go_num, rfl, HX⟩
                    case measure => simp only [intOf]; omega
            · obtain rfl : d = 41 := by omega
              have hT := HU.out.1
              rw [drO_end HNUM.out.2.2.1.1 HNUM.out.2.2.1.2 HO.out.1] at hT
              have hr0 := hT.empty
              have HKU : Hid (KeptIn (· < w.heap.size) w U) := Lib.hid (HT.out.2.1.trans (HU.out.1.kept.mono fun x hx => Nat.lt_of_lt_of_le hx HT.out.2.1.size))
              subst hr0
              clear hT HU hlt hd
              go_wp2_with fail
              go_ret
              exact ⟨rfl, HKU.out⟩

end Go.Proofs.Ytnmjnaajpgdlgaa
