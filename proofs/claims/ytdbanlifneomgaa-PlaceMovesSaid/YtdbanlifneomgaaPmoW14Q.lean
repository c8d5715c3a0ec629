import Derived.Test.YtdbanlifneomgaaPq14Q
import Derived.Deep.Cut
import Derived.Deep.CutRange
import Derived.Deep.CutBlock
/- PlaceMoves of layer 14: the walk: it returns true for every input and writes nothing that was there. -/
set_option linter.unusedVariables false
namespace Go.Proofs.Ytdbanlifneomgaa
open Go.RowKit

theorem pmo_nums (n : Int) : ∃ k : Nat, 1 ≤ k ∧ k ≤ 30 ∧ wrap64 (1 + wrap64 ((IntKind.u64.wrap n).tmod 30)) = (k : Int) := by
  obtain ⟨j, h1, h2⟩ : ∃ j : Nat, j < 30 ∧ wrap64 ((IntKind.u64.wrap n).tmod 30) = (j : Int) := modWalk n 30 (by decide) (by decide)
  refine ⟨j + 1, by omega, by omega, ?_⟩
  rw [h2]
  unfold wrap64
  omega
theorem pmo_nums2 (n : Int) (k : Nat) (h1 : 1 ≤ k) (h2 : k ≤ 30) : ∃ c : Nat, 1 ≤ c ∧ c ≤ k ∧ wrap64 (1 + wrap64 ((IntKind.u64.wrap n).tmod (k : Int))) = (c : Int) := by
  obtain ⟨j, h3, h4⟩ := modWalk n k (by omega) (by omega)
  refine ⟨j + 1, by omega, by omega, ?_⟩
  rw [h4]
  unfold wrap64
  omega
theorem pmo_nums3 (n : Int) : ∃ s : Nat, s ≤ 255 ∧ wrap64 ((IntKind.u64.wrap n).tmod 256) = (s : Int) := by
  obtain ⟨j, h1, h2⟩ : ∃ j : Nat, j < 256 ∧ wrap64 ((IntKind.u64.wrap n).tmod 256) = (j : Int) := modWalk n 256 (by decide) (by decide)
  exact ⟨j, by omega, h2⟩
theorem rowP_len (k : Nat) : (rowP k).length = k := by unfold rowP; simp
theorem mvR_len (k c s : Nat) : (mvR k c s).length = k := by unfold mvR; simp
theorem lsP_len (k : Nat) : (lsP k).length = k := by unfold lsP; simp
theorem mvL_len (k c s : Nat) : (mvL k c s).length = k := by unfold mvL; simp

theorem mvP_c {c s : Nat} (h : 1 ≤ c) : mvP c s (c - 1) = ⟨(c : Int), 1, (s : Int)⟩ := by
  unfold mvP
  rw [if_pos (by omega)]
  congr 1
  omega
theorem ls_fr {s : Nat} {W W' : World} {a : Option Addr} {vs : List Pla} (h : IsLs W a vs) (hk : Fr8 s W W') (ha : ∀ p, a = some p → s < p.block) : IsLs W' a vs :=
  lsAt h hk fun p e hp => ⟨hp, Nat.ne_of_gt (ha p e)⟩
theorem row_ge {W : World} {B n cap s : Nat} {a : Option Addr} {xs : List Value} (h : W.ownsRow B 47 3 (.slice a n cap) n xs) (hs : s < B) : ∀ p, a = some p → s < p.block := fun p e => by
  rcases h.2 with ⟨e1, _⟩ | ⟨g, cap', cur, e1, hg, hb, _⟩
  · simp only [Value.slice.injEq] at e1
    rw [e1.1] at e
    cases e
  · simp only [Value.slice.injEq] at e1
    rw [e1.1] at e
    cases e
    exact Nat.lt_of_lt_of_le hs hg
theorem row_ls {W : World} {B n cap : Nat} {a : Option Addr} {l : List Pla} (hn : l.length = n) (h : W.ownsRow B 47 3 (.slice a n cap) n (cellsL l)) : IsLs W a l := by
  subst hn
  exact row_IsLs h

set_option maxHeartbeats 16000000 in
set_option maxRecDepth 100000 in
theorem pmoW14 (n which slot : Int) (w : World) (_ : (Lit.int .i64 n).wf = true) (_ : (Lit.int .i64 which).wf = true) (_ : (Lit.int .i64 slot).wf = true) :
    Calls Try.prog 6 #[.int .i64 n, .int .i64 which, .int .i64 slot] w fun e w' => e = .returned (.bool true) ∧ KeptIn (· < w.heap.size) w w' := by
  obtain ⟨k, hk1, hk2, hkw⟩ := pmo_nums n
  obtain ⟨c, hc1, hc2, hcw⟩ := pmo_nums2 which k hk1 hk2
  obtain ⟨s2, hs2, hsw⟩ := pmo_nums3 slot
  have HKW := Lib.hid hkw
  have HCW := Lib.hid hcw
  have HSW := Lib.hid hsw
  clear hkw hcw hsw
  go_enter Try.func6, Try.ntmps6
  go_wp2_with fail
  refine (awake14 w).mono ?_
  rintro e w3 ⟨rfl, k3⟩
  obtain ⟨W1, hW1⟩ : ∃ W1, w3.alloc (.cells #[.slice none 0 0, .int .i64 511] 30) = W1 := ⟨_, rfl⟩
  have ht := tn_new14 w3 511 (by decide) W1 hW1.symm
  obtain ⟨s, hs⟩ : ∃ s, w3.heap.size = s := ⟨_, rfl⟩
  rw [hs] at ht
  have HI0 : Hid (Pm w3 s 0 (rowP 0) 0 W1) := Lib.hid ⟨_, ht, Nat.le_refl _⟩
  have HK3 := Lib.hid (And.intro k3 hs)
  have HW := Lib.hid (And.intro hW1 hs)
  clear ht hs hW1 k3
  have hkI : (k : Int) ≤ 30 := by omega
  go_upto_region 5 with fail
  rw [HW.out.1]
  simp only [HW.out.2]
  go_upto_region 6 with fail
  rw [HKW.out]
  go_wp2_with fail
  go_loopw [8, 10, 11, 12] (fun r i _ _ wr => ∃ (j root : Nat) (V : World), V = wr ∧ j ≤ k ∧ i = .int .i64 (j : Int) ∧ r = .int .i64 (root : Int) ∧ Hid (Pm w3 s root (rowP j) j V)) (fun _ i _ _ _ => k - (RowKit.intOf i).toNat)
  case atStart => exact ⟨0, 0, _, rfl, Nat.zero_le _, rfl, rfl, HI0⟩
  case round =>
    obtain ⟨j, root, V, rfl, hj, rfl, rfl, HJ⟩ := hrel
    clear HI0
    have d0 : (0 : Int) ≤ (j : Int) := by omega
    by_cases hlt : j < k
    · have d1 : (j : Int) < (k : Int) := by omega
      have HC := Lib.hid (pmPut (spP_good (i := j) (by omega)) HJ.out (by omega))
      rw [row_next] at HC
      unfold plaV pgV spP at HC
      simp only at HC
      go_wp2_with fail
      refine HC.out.mono ?_
      rintro e V2 ⟨r, rfl, hP, hfr⟩
      have HJ2 := Lib.hid hP
      clear HC HJ hP hfr
      go_wp2_with fail
      go_roundw
      case rel => exact ⟨j + 1, _, _, rfl, by omega, by go_num, rfl, HJ2⟩
      case measure => simp only [RowKit.intOf]; omega
    · obtain rfl : j = k := by omega
      have d1 : ¬ (j : Int) < (j : Int) := by omega
      clear hlt hj
      have HL := Lib.hid (pmList HJ.out (by rw [rowP_len]; omega) (l := lsP j) (by rw [show pr (rowP j) = rowP j from pr_map spP j fun i hi => spP_good (by omega)]; exact plsOf_map spP j fun i hi => spP_good (by omega)))
      unfold pgV at HL
      rw [lsP_len] at HL
      go_wp2_with fail
      refine HL.out.mono ?_
      rintro e V1 ⟨v1, rfl, hrow1, hk1'⟩
      obtain ⟨a1, p1, rfl⟩ := row_sliceL hrow1
      have hls1 : IsLs V1 a1 (lsP j) := row_ls (lsP_len j) hrow1
      have hab1 := row_ge hrow1 HJ.out.slt
      have H1 := Lib.hid (And.intro (HJ.out.old hk1') (And.intro hls1 hab1))
      clear HL HJ hrow1 hk1' hls1 hab1
      go_upto_region 15 with fail
      rw [HCW.out]
      obtain ⟨W2, hW2⟩ : ∃ W2, V1.alloc (.cells #[.int .i64 1, .int .i64 (s2 : Int)] 45) = W2 := ⟨_, rfl⟩
      obtain ⟨z, hz⟩ : ∃ z, V1.heap.size = z := ⟨_, rfl⟩
      have hb2 : BoxSp z 1 (s2 : Int) W2 := by rw [← hW2, ← hz]; exact BoxSp.new V1 1 (s2 : Int)
      have hk2' : KeptIn (· < V1.heap.size) V1 W2 := by rw [← hW2]; exact (KeptIn.refl _ V1).alloc (fun _ h => h) _
      have H2 := Lib.hid (And.intro (H1.out.1.old hk2') (And.intro (H1.out.2.1.old hk2') (And.intro H1.out.2.2 (And.intro hb2 (show s < z by rw [← hz]; exact H1.out.1.slt)))))
      have HW2 := Lib.hid (And.intro hW2 hz)
      have hswf := HSW.out
      clear H1 hb2 hk2' hW2 hz
      go_upto_region 16 with fail
      first | rw [hswf] | skip
      rw [HW2.out.1]
      simp only [HW2.out.2]
      clear hswf
      have c0 := H2.out.2.2.2.1.c0
      have c1 := H2.out.2.2.2.1.c1
      have HC := Lib.hid (pmPut (mvP_good (c := c) (s := s2) (i := c - 1) (by omega) hs2) H2.out.1 (by omega))
      rw [row_move hc1 hc2, mvP_c hc1] at HC
      unfold plaV pgV at HC
      simp only at HC
      go_wp2_with fail
      refine HC.out.mono ?_
      rintro e V3 ⟨r, rfl, hP, hfr⟩
      have H3 := Lib.hid (And.intro hP (And.intro (ls_fr H2.out.2.1 hfr H2.out.2.2.1) (And.intro H2.out.2.2.1 (And.intro (H2.out.2.2.2.1.kept hfr ⟨H2.out.2.2.2.1.lt, Nat.ne_of_gt H2.out.2.2.2.2⟩) H2.out.2.2.2.2))))
      clear HC H2 hP hfr c0 c1
      have HL := Lib.hid (pmList H3.out.1 (by rw [mvR_len]; omega) (l := mvL j c s2) (by rw [show pr (mvR j c s2) = mvR j c s2 from pr_map (mvP c s2) j fun i hi => mvP_good (by omega) hs2]; exact plsOf_map (mvP c s2) j fun i hi => mvP_good (by omega) hs2))
      unfold pgV at HL
      rw [mvL_len] at HL
      go_wp2_with fail
      refine HL.out.mono ?_
      rintro e V4 ⟨v2, rfl, hrow2, hk4⟩
      obtain ⟨a2, p2, rfl⟩ := row_sliceL hrow2
      have H4 := Lib.hid (And.intro (H3.out.1.old hk4) (And.intro (H3.out.2.1.old hk4) (And.intro (row_ls (mvL_len j c s2) hrow2) (And.intro (H3.out.2.2.2.1.kept hk4 H3.out.2.2.2.1.lt) (And.intro H3.out.2.2.1 (And.intro (row_ge hrow2 H3.out.1.slt) H3.out.2.2.2.2))))))
      clear HL H3 hrow2 hk4
      have j1 : (j : Int) ≤ 100000 := by omega
      go_wp2_with fail
      refine (plGood a1 j p1 (lsP j) (j : Int) 1 V4 H4.out.2.1 (lsP_len j) (by omega)).mono ?_
      rw [ok_sp hk2]
      rintro e V5 ⟨rfl, hk5⟩
      have H5 := Lib.hid (And.intro (H4.out.1.old hk5) (And.intro (H4.out.2.1.old hk5) (And.intro (H4.out.2.2.1.old hk5) (And.intro (H4.out.2.2.2.1.kept hk5 H4.out.2.2.2.1.lt) H4.out.2.2.2.2))))
      clear H4 hk5
      go_wp2_with fail
      refine (plGood a2 j p2 (mvL j c s2) (j : Int) 256 V5 H5.out.2.2.1 (mvL_len j c s2) (by omega)).mono ?_
      rw [ok_mv hk2 hs2]
      rintro e V6 ⟨rfl, hk6⟩
      have H6 := Lib.hid (And.intro (H5.out.1.old hk6) (And.intro (H5.out.2.1.old hk6) (And.intro (H5.out.2.2.1.old hk6) (And.intro (H5.out.2.2.2.1.kept hk6 H5.out.2.2.2.1.lt) H5.out.2.2.2.2))))
      have HJ0 := Lib.hid (KeptIn.refl (· < V6.heap.size) V6)
      clear H5 hk6
      go_wp2_with fail
      go_loopw [21] (fun i wr => ∃ (t : Nat) (U : World), U = wr ∧ t ≤ j ∧ i = .int .i64 (t : Int) ∧ Hid (KeptIn (· < V6.heap.size) V6 U)) (fun i _ => j - (RowKit.intOf i).toNat)
      case atStart => exact ⟨0, _, rfl, Nat.zero_le _, rfl, HJ0⟩
      case round =>
        obtain ⟨t, U, rfl, ht, rfl, HU⟩ := hrel
        clear HJ0
        have t0 : (0 : Int) ≤ (t : Int) := by omega
        by_cases hlt3 : t < j
        · have t1 : (t : Int) < (j : Int) := by omega
          obtain ⟨b1, o1, rfl, hb1, hc1'⟩ := (H6.out.2.1.old HU.out).cells (by rw [lsP_len]; omega)
          obtain ⟨b2, o2, rfl, hb2, hc2'⟩ := (H6.out.2.2.1.old HU.out).cells (by rw [mvL_len]; omega)
          have hy1 := hc1' t (by rw [lsP_len]; exact hlt3)
          have hy2 := hc2' t (by rw [mvL_len]; exact hlt3)
          rw [show (lsP j)[t]'(by rw [lsP_len]; exact hlt3) = spP t by unfold lsP; simp] at hy1
          rw [show (mvL j c s2)[t]'(by rw [mvL_len]; exact hlt3) = mvP c s2 t by unfold mvL; simp] at hy2
          obtain ⟨e1, e2, e3⟩ := hy1
          obtain ⟨f1, f2, f3⟩ := hy2
          have hz := H6.out.2.2.2.1.kept HU.out H6.out.2.2.2.1.lt
          have z0 := hz.c0
          have z1 := hz.c1
          clear hc1' hc2' hb1 hb2 hz
          by_cases hc : t + 1 = c
          · rw [show mvP c s2 t = ⟨(t : Int) + 1, 1, (s2 : Int)⟩ by unfold mvP; rw [if_pos hc]] at f1 f2 f3
            simp only at f1 f2 f3
            rw [show (t : Int) + 1 = (c : Int) by omega] at f1
            clear e1 e2 e3 hc
            go_wp2_with fail
            go_quiet (fail)
            clear f1 f2 f3 z0 z1
            go_wp2_with fail
            go_roundw
            case rel => exact ⟨t + 1, _, rfl, by omega, by go_num, Lib.hid (HU.out.drewN nq)⟩
            case measure => simp only [RowKit.intOf]; omega
          · rw [show mvP c s2 t = spP t by unfold mvP; rw [if_neg hc]] at f1 f2 f3
            unfold spP at e1 e2 e3 f1 f2 f3
            simp only at e1 e2 e3 f1 f2 f3
            obtain ⟨ct, hct⟩ : ∃ ct : Int, (t : Int) + 1 = ct := ⟨_, rfl⟩
            rw [hct] at e1 f1
            have n1 : (ct == (c : Int)) = false := by rw [beq_eq_false_iff_ne]; omega
            have n3 : (ct != (c : Int)) = true := by rw [bne_iff_ne]; omega
            have n4 : decide (ct = (c : Int)) = false := decide_eq_false (by omega)
            have n9 := fun W => neqPl ⟨ct, 0, (t : Int)⟩ ⟨ct, 0, (t : Int)⟩ W
            simp only [plaV, decide_true, Bool.not_true] at n9
            clear hct hc z0 z1
            go_wp2_with fail
            go_quiet (fail)
            clear e1 e2 e3 f1 f2 f3 n1 n3 n4 n9
            go_wp2_with fail
            go_roundw
            case rel => exact ⟨t + 1, _, rfl, by omega, by go_num, Lib.hid (HU.out.drewN nq)⟩
            case measure => simp only [RowKit.intOf]; omega
        · have t1 : ¬ (t : Int) < (j : Int) := by omega
          have hz := H6.out.2.2.2.1.kept HU.out H6.out.2.2.2.1.lt
          have z0 := hz.c0
          have z1 := hz.c1
          have HC := Lib.hid (pmPut (twoP_good (k := j) (s := s2) (by omega) hs2) (H6.out.1.old HU.out) (by omega))
          rw [row_two] at HC
          have hls := ls_two (k := j) (c := c) (s := s2) hk2 hs2
          have hln : (mvL j c s2 ++ [twoP j s2]).length = j + 1 := by rw [List.length_append, mvL_len]; rfl
          have hlq : (mvR j c s2 ++ [(keyP (twoP j s2), valP (twoP j s2))]).length ≤ 1000 := by rw [List.length_append, mvR_len, List.length_singleton]; omega
          have hno := no_two (k := j) (c := c) (s := s2) hc1 hc2
          obtain ⟨L, hL⟩ : ∃ L, mvL j c s2 ++ [twoP j s2] = L := ⟨_, rfl⟩
          obtain ⟨Q, hQ⟩ : ∃ Q, mvR j c s2 ++ [(keyP (twoP j s2), valP (twoP j s2))] = Q := ⟨_, rfl⟩
          rw [hL] at hls hln hno
          rw [hQ] at hls hlq HC
          have HLS := Lib.hid (And.intro hls (And.intro hln (And.intro hlq hno)))
          unfold plaV pgV twoP at HC
          simp only at HC
          clear H6 HU hz hls hln hlq hno hL hQ
          go_wp2_with fail
          refine HC.out.mono ?_
          rintro e V7 ⟨r7, rfl, hP, hfr⟩
          have HL := Lib.hid (pmList hP HLS.out.2.2.1 HLS.out.1)
          unfold pgV at HL
          rw [HLS.out.2.1] at HL
          have HP7 := Lib.hid hP
          clear HC hfr hP z0 z1
          go_wp2_with fail
          refine HL.out.mono ?_
          rintro e V8 ⟨v3, rfl, hrow3, hk8⟩
          obtain ⟨a3, p3, rfl⟩ := row_sliceL hrow3
          have H8 := Lib.hid (And.intro (row_ls HLS.out.2.1 hrow3) (HP7.out.old hk8))
          clear HL hrow3 hk8 HP7
          go_wp2_with fail
          refine (plGood a3 (j + 1) p3 L 256 256 V8 H8.out.1 HLS.out.2.1 (by omega)).mono ?_
          rw [HLS.out.2.2.2]
          rintro e V9 ⟨rfl, hk9⟩
          go_wp2_with fail
          go_ret
          exact ⟨rfl, HK3.out.1.go (H8.out.2.kw.go hk9)⟩

end Go.Proofs.Ytdbanlifneomgaa
