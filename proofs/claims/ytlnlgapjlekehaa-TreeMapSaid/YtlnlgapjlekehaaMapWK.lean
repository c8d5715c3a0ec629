import Derived.Test.YtlnlgapjlekehaaMi8K
import Derived.Test.YtlnlgapjlekehaaNums
import Derived.Deep.Cut
import Derived.Deep.CutRange
import Derived.Deep.CutBlock
import Derived.Deep.RegionLaw
/- TreeMap of layer 8: the walk: it returns true for every input and writes nothing that was there. -/
set_option linter.unusedVariables false
namespace Go.Proofs.Ytlnlgapjlekehaa
open Go.RowKit

theorem map_nums {n m : Nat} (h : n ≤ m + 5) (hm : m ≤ 511) (hn : n ≤ 511) : (m : Int) ≤ 511 ∧ (n : Int) ≤ 511 ∧ ¬ ((m : Int) + 16 + 1 < (n : Int)) ∧ decide ((m : Int) + 16 + 1 < (n : Int)) = false ∧ ¬ ((m : Int) + 17 < (n : Int)) ∧ (n : Int) ≤ (m : Int) + 16 + 1 := by
  have h1 : ¬ ((m : Int) + 16 + 1 < (n : Int)) := by omega
  exact ⟨by omega, by omega, h1, decide_eq_false h1, by omega, by omega⟩



set_option maxHeartbeats 16000000 in
set_option maxRecDepth 100000 in
theorem mapW (room : Int) (a : Option Addr) (len cap : Nat) (w : World) (wr : (Lit.int .i64 room).wf = true) (w0 : IsActs8 w a len) :
    Calls Try.prog 3 #[.int .i64 room, .slice a len cap] w fun e w' => e = .returned (.bool true) ∧ KeptIn (· < w.heap.size) w w' := by
  have l0 := w0.len_le
  unfold maxLen at l0
  have b0 : (len : Int) ≤ 9223372036854775807 := by omega
  have W0 := Lib.hid w0
  obtain ⟨rm, hrm, hrm1⟩ : ∃ k : Nat, k < 300 ∧ wrap64 ((IntKind.u64.wrap room).tmod 300) = (k : Int) := modWalk room 300 (by decide) (by decide)
  have HRM := Lib.hid hrm
  clear w0 l0 wr
  go_enter Try.func3, Try.ntmps3
  go_wp2_with fail
  refine (awake8 w).mono ?_
  rintro e w3 ⟨rfl, k3⟩
  obtain ⟨W1, hW1⟩ : ∃ W1, w3.alloc (.cells #[.slice none 0 0, .int .i64 (rm : Int)] 28) = W1 := ⟨_, rfl⟩
  have ht := tn_new8 w3 rm (by omega) W1 hW1.symm
  obtain ⟨s, hs⟩ : ∃ s, w3.heap.size = s := ⟨_, rfl⟩
  have hs1 : W1.heap.size = s + 1 := by rw [← hW1, World.size_alloc, hs]
  obtain ⟨W2, hW2⟩ : ∃ W2, W1.alloc (.cells #[] 38) = W2 := ⟨_, rfl⟩
  have hk2 : KeptIn (· < W1.heap.size) W1 W2 := by rw [← hW2]; exact (KeptIn.refl _ W1).alloc (fun _ h => h) _
  have hz2 : W2.heap.size = s + 1 + 1 := by rw [← hW2, World.size_alloc, hs1]
  rw [hs] at ht
  have HI0 : Hid (Mi w3 s rm 0 0 [] [] (some ⟨s + 1, 0, none⟩) W2) := Lib.hid ⟨ht.old hk2, IsPs.none _ _, fun p e => by cases e; exact ⟨Nat.lt_succ_self _, by rw [hz2]; exact Nat.lt_succ_self _⟩, Nat.le_refl _⟩
  have HK3 := Lib.hid (And.intro k3 hs)
  have HW := Lib.hid (And.intro hW1 (And.intro hW2 (And.intro hs hs1)))
  clear ht hs hs1 hW1 hW2 hk2 hz2 k3 hrm
  go_wp2_with fail
  rw [HW.out.1, HW.out.2.1]
  simp only [HW.out.2.2.1, hrm1]
  clear hrm1
  go_loopw [6, 7, 8, 9, 10, 11, 12, 13, 14, 15, 16, 17, 18, 19, 20, 21, 22, 23, 24, 25, 26] (fun r u i _ _ _ _ _ _ _ _ _ _ _ _ _ _ _ _ _ _ wr => ∃ (j root : Nat) (V : World) (qs : Pairs) (N : List Nd) (ua : Option Addr) (n uc : Nat), V = wr ∧ j ≤ len ∧ j ≤ 60 ∧ i = .int .i64 (j : Int) ∧ r = .int .i64 (root : Int) ∧ u = .slice ua n uc ∧ Hid (Mi w3 s rm j root qs N ua V ∧ qs.length = n)) (fun _ _ i _ _ _ _ _ _ _ _ _ _ _ _ _ _ _ _ _ _ _ => 60 - (intOf i).toNat)
  case atStart => exact ⟨0, 0, _, _, _, _, _, _, rfl, Nat.zero_le _, Nat.zero_le _, rfl, rfl, rfl, Lib.hid ⟨HI0.out, rfl⟩⟩
  case round =>
    obtain ⟨j, root, V, qs, N, ua, n, uc, rfl, hj, hj1, rfl, rfl, rfl, HJ⟩ := hrel
    clear HI0
    have d0 : (0 : Int) ≤ (j : Int) := by omega
    by_cases hlt : j < len
    · have d1 : (j : Int) < (len : Int) := by omega
      by_cases hlt1 : j < 60
      · have d2 : (j : Int) < 60 := by omega
        obtain ⟨b, off, rfl, hb, _, hel⟩ : ∃ b off, a = some ⟨b, off, none⟩ ∧ b < w.heap.size ∧ len ≤ maxLen ∧ _ := W0.out.resolve_left (by omega)
        obtain ⟨kd, kk, xx, wk, fk, fx, e0, e1, e2⟩ := hel j hlt
        have hkw : KeptIn (· < w.heap.size) w V := HK3.out.1.go (trn_kw HJ.out.1.tr)
        have g0 := (World.cell?_of_block (hkw.block b hb)).trans e0
        have g1 := (World.cell?_of_block (hkw.block b hb)).trans e1
        have g2 := (World.cell?_of_block (hkw.block b hb)).trans e2
        have bk := bounds_i64 wk
        have hkA : KeptIn (· < V.heap.size) V (V.alloc (.cells #[.int .i64 kd, .int .u64 (kk : Int), .int .u64 (xx : Int)] 32)) := (KeptIn.refl _ V).alloc (fun _ h => h) _
        have hA5 : BoxA8 V.heap.size kd kk xx (V.alloc (.cells #[.int .i64 kd, .int .u64 (kk : Int), .int .u64 (xx : Int)] 32)) := heap_alloc_new V _
        have H5 : Hid (Md w3 s rm j root qs N ua V.heap.size kd kk xx (V.alloc (.cells #[.int .i64 kd, .int .u64 (kk : Int), .int .u64 (xx : Int)] 32)) ∧ qs.length = n ∧ kk < 18446744073709551616 ∧ xx < 18446744073709551616) :=
          Lib.hid ⟨⟨HJ.out.1.old hkA, hA5, trn_slt HJ.out.1.tr⟩, HJ.out.2, fk, fx⟩
        obtain ⟨la, lc, hla, hn511⟩ := trn_list H5.out.1.1.tr
        obtain ⟨m0, hm0⟩ : ∃ m0, N.length = m0 := ⟨_, rfl⟩
        rw [hm0] at hla hn511
        have HM0 := Lib.hid (And.intro hm0 hn511)
        have hm0I : (m0 : Int) ≤ 511 := by omega
        clear e0 e1 e2 hel wk hA5 HJ hkw fk fx hkA hm0 hn511
        go_upto_block 2 with fail
        clear g0 g1 g2
        generalize V.alloc (.cells #[.int .i64 kd, .int .u64 (kk : Int), .int .u64 (xx : Int)] 32) = W5 at *
        generalize V.heap.size = y at *
        have p0 := H5.out.1.2.1.c0
        have p1 := H5.out.1.2.1.c1
        have p2 := H5.out.1.2.1.c2
        go_cut [6, 7] from 57 to 255 (fun r u wx => ∃ (root : Nat) (V : World) (qs : Pairs) (N' : List Nd) (ua : Option Addr) (n uc : Nat), V = wx ∧ r = .int .i64 (root : Int) ∧ u = .slice ua n uc ∧ Hid (Mi w3 s rm (j + 1) root qs N' ua V ∧ qs.length = n ∧ N'.length ≤ N.length + 5))
        case first =>
          as_aux_lemma =>
            clear hla
            by_cases k1 : kd = 1
            · subst k1
              have HC := Lib.hid (tnPut H5.out.1.1.tr (by omega) (by omega) H5.out.2.2.1 H5.out.2.2.2)
              unfold pgV at HC
              go_wp2_with fail
              refine HC.out.mono ?_
              rintro e V2 hR
              obtain ⟨r, er, M, rfl, hM, hfr, hor⟩ := hR
              have HBX := Lib.hid (H5.out.1.2.1.kept hfr ⟨H5.out.1.2.1.lt, Nat.ne_of_gt H5.out.1.2.2⟩)
              have HM5 := Lib.hid hM
              clear HC p0 p1 p2
              have p1 := HBX.out.c1
              have p2 := HBX.out.c2
              rcases hor with ⟨rfl, rfl, ht, -⟩ | ⟨rfl, ht⟩
              · have HX2 := Lib.hid (And.intro (H5.out.1.1.same ht hfr) (And.intro H5.out.2.1 (show (N ++ M).length ≤ N.length + 5 by rw [List.length_append]; have := HM5.out; omega)))
                clear ht hfr hM H5
                go_wp2_with fail
                go_meet
                case rel => exact ⟨_, _, _, _, _, _, _, rfl, rfl, rfl, HX2⟩
              · have hps2 := H5.out.1.1.ps' hfr
                have HC8 := Lib.hid (r8Put ua uc qs kk xx V2 hps2 (trn_srt H5.out.1.1.tr) (by have := H5.out.1.1.ln; omega))
                rw [H5.out.2.1] at HC8
                have HT4 : Hid (TrN w3 s rm r (chg [(kk, xx)] kk qs) (8 + (j + 1)) (N ++ M) V2 ∧ Fits (chg [(kk, xx)] kk qs) ∧ (chg [(kk, xx)] kk qs).length ≤ qs.length + 1 ∧ s < V2.heap.size) := Lib.hid ⟨ht, fits_chg8 hps2.fits H5.out.2.2.1 H5.out.2.2.2, chg_len8 _ _ _, Nat.lt_of_lt_of_le (trn_slt H5.out.1.1.tr) hfr.size⟩
                clear ht hfr hM hps2
                go_wp2_with fail
                refine HC8.out.mono ?_
                rintro e V5 hR8
                obtain ⟨v9, rfl, hrow, hk9⟩ := hR8
                clear HC8 HBX p1 p2
                obtain ⟨a9, c9, rfl, -⟩ := row_slice hrow
                have HX := Lib.hid (H5.out.1.1.next HT4.out.1 hrow rfl hk9 HT4.out.2.1 HT4.out.2.2.1 HT4.out.2.2.2)
                obtain ⟨n9, hn9⟩ : ∃ n9, (chg [(kk, xx)] kk qs).length = n9 := ⟨_, rfl⟩
                rw [hn9]
                have HX2 := Lib.hid (And.intro HX.out (And.intro hn9 (show (N ++ M).length ≤ N.length + 5 by rw [List.length_append]; have := HM5.out; omega)))
                clear hrow hk9 HT4 HX hn9 H5
                go_wp2_with fail
                go_meet
                case rel => exact ⟨_, _, _, _, _, _, _, rfl, rfl, rfl, HX2⟩
            · by_cases k2 : kd = 2
              · subst k2
                have HC := Lib.hid (tnPut H5.out.1.1.tr (by omega) (by omega) H5.out.2.2.1 H5.out.2.2.2)
                unfold pgV at HC
                go_wp2_with fail
                refine HC.out.mono ?_
                rintro e V2 hR
                obtain ⟨r, er, M, rfl, hM, hfr, hor⟩ := hR
                have HBX := Lib.hid (H5.out.1.2.1.kept hfr ⟨H5.out.1.2.1.lt, Nat.ne_of_gt H5.out.1.2.2⟩)
                have HM5 := Lib.hid hM
                clear HC p0 p1 p2
                have p1 := HBX.out.c1
                have p2 := HBX.out.c2
                rcases hor with ⟨rfl, rfl, ht, -⟩ | ⟨rfl, ht⟩
                · have HX2 := Lib.hid (And.intro (H5.out.1.1.same ht hfr) (And.intro H5.out.2.1 (show (N ++ M).length ≤ N.length + 5 by rw [List.length_append]; have := HM5.out; omega)))
                  clear ht hfr hM H5
                  go_wp2_with fail
                  go_meet
                  case rel => exact ⟨_, _, _, _, _, _, _, rfl, rfl, rfl, HX2⟩
                · have hps2 := H5.out.1.1.ps' hfr
                  have HC8 := Lib.hid (r8Put ua uc qs kk xx V2 hps2 (trn_srt H5.out.1.1.tr) (by have := H5.out.1.1.ln; omega))
                  rw [H5.out.2.1] at HC8
                  have HT4 : Hid (TrN w3 s rm r (chg [(kk, xx)] kk qs) (8 + (j + 1)) (N ++ M) V2 ∧ Fits (chg [(kk, xx)] kk qs) ∧ (chg [(kk, xx)] kk qs).length ≤ qs.length + 1 ∧ s < V2.heap.size) := Lib.hid ⟨ht, fits_chg8 hps2.fits H5.out.2.2.1 H5.out.2.2.2, chg_len8 _ _ _, Nat.lt_of_lt_of_le (trn_slt H5.out.1.1.tr) hfr.size⟩
                  clear ht hfr hM hps2
                  go_wp2_with fail
                  refine HC8.out.mono ?_
                  rintro e V5 hR8
                  obtain ⟨v9, rfl, hrow, hk9⟩ := hR8
                  clear HC8 HBX p1 p2
                  obtain ⟨a9, c9, rfl, -⟩ := row_slice hrow
                  have HX := Lib.hid (H5.out.1.1.next HT4.out.1 hrow rfl hk9 HT4.out.2.1 HT4.out.2.2.1 HT4.out.2.2.2)
                  obtain ⟨n9, hn9⟩ : ∃ n9, (chg [(kk, xx)] kk qs).length = n9 := ⟨_, rfl⟩
                  rw [hn9]
                  have HX2 := Lib.hid (And.intro HX.out (And.intro hn9 (show (N ++ M).length ≤ N.length + 5 by rw [List.length_append]; have := HM5.out; omega)))
                  clear hrow hk9 HT4 HX hn9 H5
                  go_wp2_with fail
                  go_meet
                  case rel => exact ⟨_, _, _, _, _, _, _, rfl, rfl, rfl, HX2⟩
              · by_cases k3 : kd = 3
                · subst k3
                  have HC := Lib.hid (tnDrop H5.out.1.1.tr H5.out.2.2.1)
                  unfold pgV at HC
                  go_wp2_with fail
                  refine HC.out.mono ?_
                  rintro e V2 hR
                  obtain ⟨r, er, bb, M, rfl, hM, hfr, hor⟩ := hR
                  have HBX := Lib.hid (H5.out.1.2.1.kept hfr ⟨H5.out.1.2.1.lt, Nat.ne_of_gt H5.out.1.2.2⟩)
                  have HM5 := Lib.hid hM
                  clear HC p0 p1 p2
                  have p1 := HBX.out.c1
                  have hps2 := H5.out.1.1.ps' hfr
                  have HC8 := r8Drop ua uc qs kk V2 hps2 (by have := H5.out.1.1.ln; omega)
                  obtain ⟨d, hd⟩ : ∃ d, decide ((drp kk qs).length < qs.length) = d := ⟨_, rfl⟩
                  rw [hd, H5.out.2.1] at HC8
                  replace HC8 := Lib.hid HC8
                  rcases hor with ⟨rfl, rfl, rfl, ht, -⟩ | ⟨rfl, hbb, hsame, ht⟩
                  · have HX1 := Lib.hid (And.intro (H5.out.1.1.same ht hfr) (And.intro H5.out.2.1 (show (N ++ M).length ≤ N.length + 5 by rw [List.length_append]; have := HM5.out; omega)))
                    clear ht hfr hM H5 hps2 hd
                    go_wp2_with fail
                    refine HC8.out.mono ?_
                    rintro e V5 hR8
                    obtain ⟨v9, rfl, hrow, hk9⟩ := hR8
                    have HX2 := Lib.hid (And.intro (HX1.out.1.old hk9) HX1.out.2)
                    clear hrow hk9 HX1 HC8
                    go_wp2_with fail
                    go_meet
                    case rel => exact ⟨_, _, _, _, _, _, _, rfl, rfl, rfl, HX2⟩
                  · rw [chg_drop kk (trn_srt H5.out.1.1.tr)] at ht
                    obtain rfl : bb = d := by
                      rw [← hd]
                      exact Bool.eq_iff_iff.2 (hbb.trans drp_lt8.symm)
                    have HT4 : Hid (TrN w3 s rm r (drp kk qs) (8 + (j + 1)) (N ++ M) V2 ∧ Fits (drp kk qs) ∧ (drp kk qs).length ≤ qs.length + 1 ∧ s < V2.heap.size) := Lib.hid ⟨trn_mono ht (by omega), fits_drp8 hps2.fits, Nat.le_succ_of_le (drp_len _ _), Nat.lt_of_lt_of_le (trn_slt H5.out.1.1.tr) hfr.size⟩
                    clear ht hfr hM hps2 hbb hd
                    cases bb with
                    | true =>
                      clear hsame
                      go_wp2_with fail
                      refine HC8.out.mono ?_
                      rintro e V5 hR8
                      obtain ⟨v9, rfl, hrow, hk9⟩ := hR8
                      clear HC8 HBX p1
                      obtain ⟨a9, c9, rfl, -⟩ := row_slice hrow
                      have HX := Lib.hid (H5.out.1.1.next HT4.out.1 hrow rfl hk9 HT4.out.2.1 HT4.out.2.2.1 HT4.out.2.2.2)
                      obtain ⟨n9, hn9⟩ : ∃ n9, (drp kk qs).length = n9 := ⟨_, rfl⟩
                      rw [hn9]
                      have HX2 := Lib.hid (And.intro HX.out (And.intro hn9 (show (N ++ M).length ≤ N.length + 5 by rw [List.length_append]; have := HM5.out; omega)))
                      clear hrow hk9 HT4 HX hn9 H5
                      go_wp2_with fail
                      go_meet
                      case rel => exact ⟨_, _, _, _, _, _, _, rfl, rfl, rfl, HX2⟩
                    | false =>
                      obtain rfl : r = root := hsame rfl
                      clear hsame
                      go_wp2_with fail
                      refine HC8.out.mono ?_
                      rintro e V5 hR8
                      obtain ⟨v9, rfl, hrow, hk9⟩ := hR8
                      clear HC8 HBX p1
                      obtain ⟨a9, c9, rfl, -⟩ := row_slice hrow
                      have HX := Lib.hid (H5.out.1.1.next HT4.out.1 hrow rfl hk9 HT4.out.2.1 HT4.out.2.2.1 HT4.out.2.2.2)
                      obtain ⟨n9, hn9⟩ : ∃ n9, (drp kk qs).length = n9 := ⟨_, rfl⟩
                      rw [hn9]
                      have HX2 := Lib.hid (And.intro HX.out (And.intro hn9 (show (N ++ M).length ≤ N.length + 5 by rw [List.length_append]; have := HM5.out; omega)))
                      clear hrow hk9 HT4 HX hn9 H5
                      go_wp2_with fail
                      go_meet
                      case rel => exact ⟨_, _, _, _, _, _, _, rfl, rfl, rfl, HX2⟩
                · by_cases k4 : kd = 4
                  · subst k4
                    by_cases hin : ∃ v, (kk, v) ∈ qs
                    · obtain ⟨v, hv⟩ := hin
                      have HC := Lib.hid (tmGet H5.out.1.1.tr.m H5.out.2.2.1 hv)
                      have hr1 := rng_one (trn_srt H5.out.1.1.tr) hv
                      have hvf := (H5.out.1.1.ps.fits _ hv).2
                      have hvI : (v : Int) ≤ 18446744073709551615 := by simp only at hvf; omega
                      unfold pgV at HC
                      clear hv hvf
                      go_wp2_with fail
                      refine HC.out.mono ?_
                      rintro e V2 ⟨rfl, hk2⟩
                      have HBX := Lib.hid (H5.out.1.2.1.kept hk2 H5.out.1.2.1.lt)
                      have HX1 := Lib.hid (H5.out.1.1.old hk2)
                      have HC8 := r8Range ua uc qs kk kk V2 HX1.out.ps (by have := HX1.out.ln; omega)
                      rw [hr1, H5.out.2.1] at HC8
                      replace HC8 := Lib.hid HC8
                      clear HC p0 p1 p2 hk2 hr1
                      have p1 := HBX.out.c1
                      have p2 := HBX.out.c2
                      go_wp2_with fail
                      refine HC8.out.mono ?_
                      rintro e V5 hR8
                      obtain ⟨v9, rfl, hrow, hk9⟩ := hR8
                      obtain ⟨a9, c9, rfl, -⟩ := row_slice hrow
                      have hp9 := row_IsPs hrow (fun p hp => by rw [List.mem_singleton.1 hp]; exact ⟨H5.out.2.2.1, by omega⟩)
                      obtain ⟨b9, o9, rfl, -, hc9⟩ := hp9.cells (by simp)
                      have z1 := (hc9 0 (by simp)).2
                      have HX2 := Lib.hid (And.intro (HX1.out.old hk9).mono (And.intro H5.out.2.1 (Nat.le_add_right N.length 5)))
                      simp only [List.length_cons, List.length_nil, Nat.zero_add, Nat.zero_mul, Nat.add_zero] at z1 ⊢
                      change V5.cell? ⟨b9, o9 + 1, none⟩ = some (.int .u64 (v : Int)) at z1
                      clear hrow hk9 HX1 HC8 HBX p1 p2 hp9 hc9 H5
                      go_wp2_with fail
                      go_meet
                      case rel => exact ⟨_, _, _, _, _, _, _, rfl, rfl, rfl, HX2⟩
                    · have hno : ∀ v, (kk, v) ∉ qs := fun v hv => hin ⟨v, hv⟩
                      have HC := Lib.hid (tmGetNo H5.out.1.1.tr.m H5.out.2.2.1 hno)
                      have hr1 := rng_no hno
                      unfold pgV at HC
                      clear hin hno
                      go_wp2_with fail
                      refine HC.out.mono ?_
                      rintro e V2 ⟨rfl, hk2⟩
                      have HBX := Lib.hid (H5.out.1.2.1.kept hk2 H5.out.1.2.1.lt)
                      have HX1 := Lib.hid (H5.out.1.1.old hk2)
                      have HC8 := r8Range ua uc qs kk kk V2 HX1.out.ps (by have := HX1.out.ln; omega)
                      rw [hr1, H5.out.2.1] at HC8
                      replace HC8 := Lib.hid HC8
                      clear HC p0 p1 p2 hk2 hr1
                      have p1 := HBX.out.c1
                      have p2 := HBX.out.c2
                      go_wp2_with fail
                      refine HC8.out.mono ?_
                      rintro e V5 hR8
                      obtain ⟨v9, rfl, hrow, hk9⟩ := hR8
                      obtain ⟨a9, c9, rfl, -⟩ := row_slice hrow
                      have HX2 := Lib.hid (And.intro (HX1.out.old hk9).mono (And.intro H5.out.2.1 (Nat.le_add_right N.length 5)))
                      simp only [List.length_nil]
                      clear hrow hk9 HX1 HC8 HBX p1 p2 H5
                      go_wp2_with fail
                      go_meet
                      case rel => exact ⟨_, _, _, _, _, _, _, rfl, rfl, rfl, HX2⟩
                  · have b1 : (kd == 1) = false := by rw [beq_eq_false_iff_ne]; exact k1
                    have b2 : (kd == 2) = false := by rw [beq_eq_false_iff_ne]; exact k2
                    have b3 : (kd == 3) = false := by rw [beq_eq_false_iff_ne]; exact k3
                    have b4 : (kd == 4) = false := by rw [beq_eq_false_iff_ne]; exact k4
                    have HC := Lib.hid (tmRange H5.out.1.1.tr.m kk xx H5.out.2.2.1 H5.out.2.2.2 (by have := H5.out.1.1.ln; omega))
                    unfold pgV at HC
                    go_wp2_with fail
                    refine HC.out.mono ?_
                    rintro e V2 hR
                    unfold RngS at hR
                    obtain ⟨v2, rfl, hrow2, hfit2, hk2⟩ := hR
                    obtain ⟨a2, c2, rfl, -⟩ := row_slice hrow2
                    have HBX := Lib.hid (H5.out.1.2.1.kept hk2 H5.out.1.2.1.lt)
                    have HX1 := Lib.hid (And.intro (H5.out.1.1.old hk2) (row_IsPs hrow2 hfit2))
                    have HC8 := r8Range ua uc qs kk xx V2 HX1.out.1.ps (by have := HX1.out.1.ln; omega)
                    rw [H5.out.2.1] at HC8
                    replace HC8 := Lib.hid HC8
                    obtain ⟨n2, hn2⟩ : ∃ n2, (rng kk xx qs).length = n2 := ⟨_, rfl⟩
                    rw [hn2]
                    have HN2 := Lib.hid hn2
                    clear HC p0 p1 p2 hk2 hrow2 hfit2 hn2
                    have p1 := HBX.out.c1
                    have p2 := HBX.out.c2
                    go_wp2_with fail
                    refine HC8.out.mono ?_
                    rintro e V5 hR8
                    obtain ⟨v9, rfl, hrow, hk9⟩ := hR8
                    obtain ⟨a9, c9, rfl, -⟩ := row_slice hrow
                    have hp9 := row_IsPs hrow (fits_rng HX1.out.1.ps.fits)
                    have HC9 := r5Pairs a2 a9 c2 c9 (rng kk xx qs) (rng kk xx qs) V5 (HX1.out.2.old hk9) hp9
                    rw [decide_eq_true rfl, HN2.out] at HC9
                    replace HC9 := Lib.hid HC9
                    rw [HN2.out]
                    have HX3 := Lib.hid (HX1.out.1.old hk9)
                    clear hrow hk9 HX1 HC8 HBX p1 p2 hp9
                    go_wp2_with fail
                    refine HC9.out.mono ?_
                    rintro e V6 ⟨rfl, hk6⟩
                    have HX2 := Lib.hid (And.intro (HX3.out.old hk6).mono (And.intro H5.out.2.1 (Nat.le_add_right N.length 5)))
                    clear hk6 HX3 HC9 H5
                    go_wp2_with fail
                    go_meet
                    case rel => exact ⟨_, _, _, _, _, _, _, rfl, rfl, rfl, HX2⟩
        case rest =>
          as_aux_lemma =>
            obtain ⟨root, V, qs, N', ua, n, uc, rfl, rfl, rfl, HX⟩ := hcut
            clear p0 p1 p2 H5 hla
            obtain ⟨D, hsh, ⟨lv, g, htg, hnd, hlv, -⟩, hNr, hDg, hkw⟩ := HX.out.1.tr
            obtain ⟨la2, lc2, hm2, -⟩ := hsh.mem
            have hla2 : V.cell? ⟨s, 0, none⟩ = some (.slice la2 N'.length lc2) := (cell_of_row _ _ 0 _ _ _ hm2).trans rfl
            have hq60 : qs.length ≤ 1000 := by have := HX.out.1.ln; omega
            have HL := r8Look hla2 hsh htg hnd hlv hq60
            have HCK := Lib.hid fun (U : World) (hk : KeptIn (· < V.heap.size) V U) => trCheck hsh.len (hsh.old hk) htg hnd
            have HRC := Lib.hid fun (U : World) (hk : KeptIn (· < V.heap.size) V U) => trReach hsh.len (hsh.old hk) htg hnd
            have HS0 := Lib.hid fun (U : World) (hk : KeptIn (· < V.heap.size) V U) => (World.cell?_of_block (a := ⟨s, 0, none⟩) (hk.block s (hsh.lt s hsh.ds))).trans hla2
            obtain ⟨n1, hn1⟩ : ∃ n1, N'.length = n1 := ⟨_, rfl⟩
            rw [hn1] at hla2 HL HS0
            have hgl : (ofP g).length ≤ maxLen := by
              have h1 := nodup_le N'.length g hnd htg.pages
              have h2 := hsh.len
              unfold ofP maxLen
              rw [List.length_map]
              omega
            replace HL := Lib.hid HL
            obtain ⟨u1, u2, u3, u4', u5, u6⟩ := map_nums (n := n1) (m := m0) (by have h1 := HX.out.2.2; have h2 := HM0.out.1; omega) HM0.out.2 (by rw [← hn1]; exact hsh.len)
            have HGL := Lib.hid hgl
            unfold pgV at HCK HRC
            clear hsh htg hnd hlv hNr hDg hkw hm2 hq60 hn1 hgl
            go_wp2_with fail
            refine HL.out.mono ?_
            rintro e V1 hR1
            obtain ⟨T, B0, pv, qv, rfl, hat, hk1⟩ := hR1
            obtain ⟨pa, pc, rfl⟩ := row_sliceI hat.prow
            obtain ⟨qa, qc, rfl, -⟩ := row_slice hat.qrow
            have hX1 := HX.out.1.old hk1
            have hq1 := row_IsPs hat.qrow HX.out.1.ps.fits
            have HP5 := r5Pairs qa ua qc uc qs qs V1 hq1 hX1.ps
            rw [decide_eq_true rfl, HX.out.2.1] at HP5
            replace HP5 := Lib.hid HP5
            have s0 := HS0.out V1 hk1
            have t0 := hat.c0
            have t1 := hat.c1
            have t2 := hat.c2
            rw [HX.out.2.1] at t1
            have HAT := Lib.hid (And.intro hat (And.intro hX1 hk1))
            clear hat hX1 hq1 hk1 HL hla2
            go_wp2_with fail
            refine HP5.out.mono ?_
            rintro e V2 ⟨rfl, hk2⟩
            have HAT2 := Lib.hid (And.intro (HAT.out.1.old hk2) (And.intro (HAT.out.2.1.old hk2) (HAT.out.2.2.go hk2)))
            clear HAT HP5 hk2 s0 t0 t1 t2
            have s0 := HS0.out V2 HAT2.out.2.2
            have HC3 := Lib.hid (HCK.out V2 HAT2.out.2.2)
            go_wp2_with fail
            refine HC3.out.mono ?_
            rintro e V3 ⟨rfl, hk3⟩
            have HAT3 := Lib.hid (And.intro (HAT2.out.1.old hk3) (And.intro (HAT2.out.2.1.old hk3) (HAT2.out.2.2.go hk3)))
            clear HAT2 HC3 hk3 s0
            have HC4 := Lib.hid (HRC.out V3 HAT3.out.2.2)
            go_wp2_with fail
            refine HC4.out.mono ?_
            rintro e V4 hR4
            obtain ⟨v4, rfl, hrow4, hk4⟩ := hR4
            obtain ⟨a4, c4, rfl⟩ := row_sliceI hrow4
            have hat4 := HAT3.out.1.old hk4
            obtain ⟨gn, hgn⟩ : ∃ gn, (ofP g).length = gn := ⟨_, rfl⟩
            have HI5 := Lib.hid (l8ints a4 pa c4 pc gn (ofP g) V4 hgn (rowIntsL hrow4 HGL.out) (rowIntsL hat4.prow HGL.out))
            have HAT4 := Lib.hid (And.intro (HAT3.out.2.1.old hk4) HX.out.2.1)
            have t0 := hat4.c0
            rw [hgn] at t0 ⊢
            clear hrow4 hat4 HAT3 HC4 hk4 hgn
            go_wp2_with fail
            refine HI5.out.mono ?_
            rintro e V5 ⟨rfl, hk5⟩
            have HX5 := Lib.hid (And.intro (HAT4.out.1.old hk5) HAT4.out.2)
            clear HAT4 hk5 HI5 t0
            go_wp2_with fail
            go_roundw
            case rel => exact ⟨j + 1, _, _, _, _, _, _, _, rfl, by omega, by omega, by go_num, rfl, rfl, HX5⟩
            case measure => simp only [intOf]; omega
      · have d2 : ¬ (j : Int) < 60 := by omega
        have HKE := Lib.hid (HK3.out.1.go (trn_kw HJ.out.1.tr))
        clear HJ
        go_wp2_with fail
        go_ret
        exact ⟨rfl, HKE.out⟩
    · have d1 : ¬ (j : Int) < (len : Int) := by omega
      have HKE := Lib.hid (HK3.out.1.go (trn_kw HJ.out.1.tr))
      clear HJ
      go_wp2_with fail
      go_ret
      exact ⟨rfl, HKE.out⟩

end Go.Proofs.Ytlnlgapjlekehaa
