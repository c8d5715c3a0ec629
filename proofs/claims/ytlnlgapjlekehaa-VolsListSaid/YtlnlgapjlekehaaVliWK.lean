import Derived.Test.YtlnlgapjlekehaaVi11K
import Derived.Deep.Cut
import Derived.Deep.CutRange
import Derived.Deep.CutBlock
import Derived.Deep.RegionLaw
/- VolsList of layer 11: the walk: it returns true for every input and writes nothing that was there. -/
set_option linter.unusedVariables false
namespace Go.Proofs.Ytlnlgapjlekehaa
open Go.RowKit

theorem tn_new (w : World) (room : Nat) (hr : room ≤ 1000000) (W : World) (hW : W = w.alloc (.cells #[.slice none 0 0, .int .i64 (room : Int)] 28)) : TrN w w.heap.size room 0 [] 8 [] W :=
  ⟨_, (tm_new w room hr W hW).1, TrI.zero, by simp, fun k hk => Nat.le_of_eq hk.symm, by rw [hW]; exact (KeptIn.refl _ w).alloc (fun _ h => h) _⟩



set_option maxHeartbeats 16000000 in
set_option maxRecDepth 100000 in
theorem vliW (a : Option Addr) (len cap : Nat) (w : World) (w0 : IsActs11 w a len) :
    Calls Try.prog 5 #[.slice a len cap] w fun e w' => e = .returned (.bool true) ∧ KeptIn (· < w.heap.size) w w' := by
  have l0 := w0.len_le
  unfold maxLen at l0
  have b0 : (len : Int) ≤ 9223372036854775807 := by omega
  have W0 := Lib.hid w0
  clear w0 l0
  go_enter Try.func5, Try.ntmps5
  go_wp2_with fail
  refine (awake11 w).mono ?_
  rintro e w3 ⟨rfl, k3⟩
  obtain ⟨W1, hW1⟩ : ∃ W1, w3.alloc (.cells #[.slice none 0 0, .int .i64 511] 28) = W1 := ⟨_, rfl⟩
  have ht := tn_new w3 511 (by decide) W1 hW1.symm
  obtain ⟨s, hs⟩ : ∃ s, w3.heap.size = s := ⟨_, rfl⟩
  have hs1 : W1.heap.size = s + 1 := by rw [← hW1, World.size_alloc, hs]
  obtain ⟨W2, hW2⟩ : ∃ W2, W1.alloc (.cells #[] 38) = W2 := ⟨_, rfl⟩
  have hk2 : KeptIn (· < W1.heap.size) W1 W2 := by rw [← hW2]; exact (KeptIn.refl _ W1).alloc (fun _ h => h) _
  have hz2 : W2.heap.size = s + 1 + 1 := by rw [← hW2, World.size_alloc, hs1]
  rw [hs] at ht
  have HI0 : Hid (Vi w3 s 0 0 [] [] (some ⟨s + 1, 0, none⟩) W2) := Lib.hid ⟨ht.old hk2, IsPs.none _ _, fun p e => by cases e; exact ⟨Nat.lt_succ_self _, by rw [hz2]; exact Nat.lt_succ_self _⟩, Nat.le_refl _⟩
  have HK3 := Lib.hid (And.intro k3 hs)
  have HW := Lib.hid (And.intro hW1 (And.intro hW2 (And.intro hs hs1)))
  clear ht hs hs1 hW1 hW2 hk2 hz2 k3
  go_wp2_with fail
  rw [HW.out.1, HW.out.2.1]
  simp only [HW.out.2.2.1]
  go_loopw [4, 5, 6, 7, 8, 9, 10, 11, 12, 13, 14, 15, 16, 17, 18, 19, 20, 21] (fun r u i _ _ _ _ _ _ _ _ _ _ _ _ _ _ _ wr => ∃ (j root : Nat) (V : World) (qs : Pairs) (N : List Nd) (ua : Option Addr) (n uc : Nat), V = wr ∧ j ≤ len ∧ j ≤ 40 ∧ i = .int .i64 (j : Int) ∧ r = .int .i64 (root : Int) ∧ u = .slice ua n uc ∧ Hid (Vi w3 s j root qs N ua V ∧ qs.length = n)) (fun _ _ i _ _ _ _ _ _ _ _ _ _ _ _ _ _ _ _ => 40 - (intOf i).toNat)
  case atStart => exact ⟨0, 0, _, _, _, _, _, _, rfl, Nat.zero_le _, Nat.zero_le _, rfl, rfl, rfl, Lib.hid ⟨HI0.out, rfl⟩⟩
  case round =>
    obtain ⟨j, root, V, qs, N, ua, n, uc, rfl, hj, hj1, rfl, rfl, rfl, HJ⟩ := hrel
    clear HI0
    have d0 : (0 : Int) ≤ (j : Int) := by omega
    by_cases hlt : j < len
    · have d1 : (j : Int) < (len : Int) := by omega
      by_cases hlt1 : j < 40
      · have d2 : (j : Int) < 40 := by omega
        obtain ⟨b, off, rfl, hb, _, hel⟩ : ∃ b off, a = some ⟨b, off, none⟩ ∧ b < w.heap.size ∧ len ≤ maxLen ∧ _ := W0.out.resolve_left (by omega)
        obtain ⟨kd, id, size, rt, pin, frm, kk, xx, wk, wi, fk, fx, e0, e1, e2, e3, e4, e5, e6, e7⟩ := hel j hlt
        have hkw : KeptIn (· < w.heap.size) w V := HK3.out.1.go HJ.out.1.tr.kw
        have g0 := (World.cell?_of_block (hkw.block b hb)).trans e0
        have g1 := (World.cell?_of_block (hkw.block b hb)).trans e1
        have g2 := (World.cell?_of_block (hkw.block b hb)).trans e2
        have g3 := (World.cell?_of_block (hkw.block b hb)).trans e3
        have g4 := (World.cell?_of_block (hkw.block b hb)).trans e4
        have g5 := (World.cell?_of_block (hkw.block b hb)).trans e5
        have g6 := (World.cell?_of_block (hkw.block b hb)).trans e6
        have g7 := (World.cell?_of_block (hkw.block b hb)).trans e7
        have bk := bounds_i64 wk
        have bi := bounds_i64 wi
        have hA5 : BoxA11 V.heap.size kd ⟨id, size, rt, pin, frm⟩ kk xx (V.alloc (.cells #[.int .i64 kd, .int .i64 id, .int .i64 size, .int .i64 rt, .bool pin, .int .i64 frm, .int .u64 (kk : Int), .int .u64 (xx : Int)] 70)) := heap_alloc_new V _
        have H5 : Hid (Vd w3 s j root qs N ua V.heap.size kd ⟨id, size, rt, pin, frm⟩ kk xx (V.alloc (.cells #[.int .i64 kd, .int .i64 id, .int .i64 size, .int .i64 rt, .bool pin, .int .i64 frm, .int .u64 (kk : Int), .int .u64 (xx : Int)] 70)) ∧ qs.length = n ∧ kk < 18446744073709551616 ∧ xx < 18446744073709551616) :=
          Lib.hid ⟨⟨HJ.out.1.old ((KeptIn.refl _ V).alloc (fun _ h => h) _), hA5, HJ.out.1.tr.slt⟩, HJ.out.2, fk, fx⟩
        clear e0 e1 e2 e3 e4 e5 e6 e7 hel wk wi hA5 HJ hkw fk fx
        go_upto_block 2 with fail
        clear g0 g1 g2 g3 g4 g5 g6 g7
        generalize V.alloc (.cells #[.int .i64 kd, .int .i64 id, .int .i64 size, .int .i64 rt, .bool pin, .int .i64 frm, .int .u64 (kk : Int), .int .u64 (xx : Int)] 70) = W5 at *
        generalize V.heap.size = y at *
        have p0 := H5.out.1.2.1.c0
        have p1 := H5.out.1.2.1.c1
        have p2 := H5.out.1.2.1.c2
        have p3 := H5.out.1.2.1.c3
        have p4 := H5.out.1.2.1.c4
        have p5 := H5.out.1.2.1.c5
        have p6 := H5.out.1.2.1.c6
        have p7 := H5.out.1.2.1.c7
        simp only at p0 p1 p2 p3 p4 p5 p6 p7
        go_cut [4, 5] from 43 to 175 (fun r u wx => ∃ (root : Nat) (V : World) (qs : Pairs) (N : List Nd) (ua : Option Addr) (n uc : Nat), V = wx ∧ r = .int .i64 (root : Int) ∧ u = .slice ua n uc ∧ Hid (Vi w3 s (j + 1) root qs N ua V ∧ qs.length = n))
        case first =>
          as_aux_lemma =>
            by_cases k1 : kd = 1
            · subst k1
              by_cases hg : GoodV ⟨id, size, rt, pin, frm⟩
              · obtain ⟨f1, f2, -⟩ := good_keys hg
                have HC := Lib.hid (vsPut hg H5.out.1.1.tr (by omega) (by omega))
                have HG2 := Lib.hid fun W => r11Good ⟨id, size, rt, pin, frm⟩ W
                have HP2 := Lib.hid fun W => r11Pair ⟨id, size, rt, pin, frm⟩ hg W
                rw [decide_eq_true hg] at HG2
                obtain ⟨K, hK⟩ : ∃ K, keyV ⟨id, size, rt, pin, frm⟩ = K := ⟨_, rfl⟩
                obtain ⟨X, hX⟩ : ∃ X, valV ⟨id, size, rt, pin, frm⟩ = X := ⟨_, rfl⟩
                rw [hK] at f1 HC HP2
                rw [hX] at f2 HC HP2
                have HF := Lib.hid (And.intro f1 f2)
                unfold volV pgV at HC
                unfold volV at HG2
                unfold volV pairV at HP2
                simp only at HC HG2 HP2
                clear hg f1 f2 hK hX
                go_wp2_with fail
                refine HC.out.mono ?_
                rintro e V2 hR
                obtain ⟨r, er, M, rfl, hM, hfr, hor⟩ := hR
                have HBX := Lib.hid (H5.out.1.2.1.kept hfr ⟨H5.out.1.2.1.lt, Nat.ne_of_gt H5.out.1.2.2⟩)
                clear HC p0 p1 p2 p3 p4 p5 p6 p7
                have p1 := HBX.out.c1
                have p2 := HBX.out.c2
                have p3 := HBX.out.c3
                have p4 := HBX.out.c4
                have p5 := HBX.out.c5
                simp only at p1 p2 p3 p4 p5
                rcases hor with ⟨rfl, rfl, ht, -⟩ | ⟨rfl, ht⟩
                · have HKE := Lib.hid (HK3.out.1.go ht.kw)
                  clear ht hfr hM
                  go_wp2_with (first | (go_at_call 23; refine (HG2.out _).mono ?_; rintro e V3 ⟨rfl, hk3⟩))
                  go_ret
                  exact ⟨rfl, HKE.out.go hk3⟩
                · have HT2 := Lib.hid (And.intro ht (And.intro (H5.out.1.1.ps' hfr) (Nat.lt_of_lt_of_le H5.out.1.1.tr.slt hfr.size)))
                  clear ht hfr hM
                  go_wp2_with fail
                  refine (HG2.out _).mono ?_
                  rintro e V3 ⟨rfl, hk3⟩
                  have HBX3 := Lib.hid (HBX.out.kept hk3 HBX.out.lt)
                  have HT3 := Lib.hid (And.intro (HT2.out.1.old hk3) (And.intro (HT2.out.2.1.old hk3) (Nat.lt_of_lt_of_le HT2.out.2.2 hk3.size)))
                  clear HBX HT2 hk3 p1 p2 p3 p4 p5
                  have HBX := HBX3
                  clear HBX3
                  have p1 := HBX.out.c1
                  have p2 := HBX.out.c2
                  have p3 := HBX.out.c3
                  have p4 := HBX.out.c4
                  have p5 := HBX.out.c5
                  simp only at p1 p2 p3 p4 p5
                  go_wp2_with fail
                  refine (HP2.out _).mono ?_
                  rintro e V4 ⟨rfl, hk4⟩
                  have hps4 := HT3.out.2.1.old hk4
                  have HC8 := Lib.hid (r8Put ua uc qs K X V4 hps4 H5.out.1.1.tr.srt (by have := H5.out.1.1.ln; omega))
                  rw [H5.out.2.1] at HC8
                  have HT4 : Hid (TrN w3 s 511 r (chg [(K, X)] K qs) (8 + (j + 1)) (N ++ M) V4 ∧ Fits (chg [(K, X)] K qs) ∧ (chg [(K, X)] K qs).length ≤ qs.length + 1 ∧ s < V4.heap.size) := Lib.hid ⟨HT3.out.1.old hk4, fits_chg hps4.fits HF.out.1 HF.out.2, chg_len_le11 _ _ _ _ (Nat.le_refl _), Nat.lt_of_lt_of_le HT3.out.2.2 hk4.size⟩
                  clear hps4 HT3 hk4 HBX p1 p2 p3 p4 p5
                  go_wp2_with fail
                  refine HC8.out.mono ?_
                  rintro e V5 hR8
                  obtain ⟨v9, rfl, hrow, hk9⟩ := hR8
                  obtain ⟨a9, c9, rfl, -⟩ := row_slice hrow
                  have HX := Lib.hid (H5.out.1.1.next HT4.out.1 hrow rfl hk9 HT4.out.2.1 HT4.out.2.2.1 HT4.out.2.2.2)
                  obtain ⟨n9, hn9⟩ : ∃ n9, (chg [(K, X)] K qs).length = n9 := ⟨_, rfl⟩
                  rw [hn9]
                  have HX2 := Lib.hid (And.intro HX.out hn9)
                  clear hrow hk9 HT4 HX hn9 H5
                  go_wp2_with fail
                  go_meet
                  case rel => exact ⟨_, _, _, _, _, _, _, rfl, rfl, rfl, HX2⟩
              · have HC := Lib.hid (vsPutBad (W := W5) (s := s) (root := root) hg)
                have HG2 := Lib.hid fun W => r11Good ⟨id, size, rt, pin, frm⟩ W
                rw [decide_eq_false hg] at HG2
                unfold volV pgV at HC
                unfold volV at HG2
                simp only at HC HG2
                clear hg
                go_wp2_with fail
                refine HC.out.mono ?_
                rintro e V2 ⟨rfl, hk2⟩
                have HBX := Lib.hid (H5.out.1.2.1.kept hk2 H5.out.1.2.1.lt)
                have HV2 := Lib.hid (H5.out.1.1.old hk2)
                clear HC p0 p1 p2 p3 p4 p5 p6 p7 hk2
                have p1 := HBX.out.c1
                have p2 := HBX.out.c2
                have p3 := HBX.out.c3
                have p4 := HBX.out.c4
                have p5 := HBX.out.c5
                simp only at p1 p2 p3 p4 p5
                go_wp2_with (first | (go_at_call 23; refine (HG2.out _).mono ?_; rintro e V3 ⟨rfl, hk3⟩; have HX := Lib.hid (And.intro (HV2.out.old hk3).mono H5.out.2.1); clear hk3))
                go_roundw
                case rel => exact ⟨j + 1, _, _, _, _, _, _, _, rfl, by omega, by omega, by go_num, rfl, rfl, HX⟩
                case measure => simp only [intOf]; omega
            · by_cases k2 : kd = 2
              · subst k2
                by_cases hg : GoodV ⟨id, size, rt, pin, frm⟩
                · obtain ⟨f1, f2, -⟩ := good_keys hg
                  have HC := Lib.hid (vsPut hg H5.out.1.1.tr (by omega) (by omega))
                  have HG2 := Lib.hid fun W => r11Good ⟨id, size, rt, pin, frm⟩ W
                  have HP2 := Lib.hid fun W => r11Pair ⟨id, size, rt, pin, frm⟩ hg W
                  rw [decide_eq_true hg] at HG2
                  obtain ⟨K, hK⟩ : ∃ K, keyV ⟨id, size, rt, pin, frm⟩ = K := ⟨_, rfl⟩
                  obtain ⟨X, hX⟩ : ∃ X, valV ⟨id, size, rt, pin, frm⟩ = X := ⟨_, rfl⟩
                  rw [hK] at f1 HC HP2
                  rw [hX] at f2 HC HP2
                  have HF := Lib.hid (And.intro f1 f2)
                  unfold volV pgV at HC
                  unfold volV at HG2
                  unfold volV pairV at HP2
                  simp only at HC HG2 HP2
                  clear hg f1 f2 hK hX
                  go_wp2_with fail
                  refine HC.out.mono ?_
                  rintro e V2 hR
                  obtain ⟨r, er, M, rfl, hM, hfr, hor⟩ := hR
                  have HBX := Lib.hid (H5.out.1.2.1.kept hfr ⟨H5.out.1.2.1.lt, Nat.ne_of_gt H5.out.1.2.2⟩)
                  clear HC p0 p1 p2 p3 p4 p5 p6 p7
                  have p1 := HBX.out.c1
                  have p2 := HBX.out.c2
                  have p3 := HBX.out.c3
                  have p4 := HBX.out.c4
                  have p5 := HBX.out.c5
                  simp only at p1 p2 p3 p4 p5
                  rcases hor with ⟨rfl, rfl, ht, -⟩ | ⟨rfl, ht⟩
                  · have HKE := Lib.hid (HK3.out.1.go ht.kw)
                    clear ht hfr hM
                    go_wp2_with (first | (go_at_call 23; refine (HG2.out _).mono ?_; rintro e V3 ⟨rfl, hk3⟩))
                    go_ret
                    exact ⟨rfl, HKE.out.go hk3⟩
                  · have HT2 := Lib.hid (And.intro ht (And.intro (H5.out.1.1.ps' hfr) (Nat.lt_of_lt_of_le H5.out.1.1.tr.slt hfr.size)))
                    clear ht hfr hM
                    go_wp2_with fail
                    refine (HG2.out _).mono ?_
                    rintro e V3 ⟨rfl, hk3⟩
                    have HBX3 := Lib.hid (HBX.out.kept hk3 HBX.out.lt)
                    have HT3 := Lib.hid (And.intro (HT2.out.1.old hk3) (And.intro (HT2.out.2.1.old hk3) (Nat.lt_of_lt_of_le HT2.out.2.2 hk3.size)))
                    clear HBX HT2 hk3 p1 p2 p3 p4 p5
                    have HBX := HBX3
                    clear HBX3
                    have p1 := HBX.out.c1
                    have p2 := HBX.out.c2
                    have p3 := HBX.out.c3
                    have p4 := HBX.out.c4
                    have p5 := HBX.out.c5
                    simp only at p1 p2 p3 p4 p5
                    go_wp2_with fail
                    refine (HP2.out _).mono ?_
                    rintro e V4 ⟨rfl, hk4⟩
                    have hps4 := HT3.out.2.1.old hk4
                    have HC8 := Lib.hid (r8Put ua uc qs K X V4 hps4 H5.out.1.1.tr.srt (by have := H5.out.1.1.ln; omega))
                    rw [H5.out.2.1] at HC8
                    have HT4 : Hid (TrN w3 s 511 r (chg [(K, X)] K qs) (8 + (j + 1)) (N ++ M) V4 ∧ Fits (chg [(K, X)] K qs) ∧ (chg [(K, X)] K qs).length ≤ qs.length + 1 ∧ s < V4.heap.size) := Lib.hid ⟨HT3.out.1.old hk4, fits_chg hps4.fits HF.out.1 HF.out.2, chg_len_le11 _ _ _ _ (Nat.le_refl _), Nat.lt_of_lt_of_le HT3.out.2.2 hk4.size⟩
                    clear hps4 HT3 hk4 HBX p1 p2 p3 p4 p5
                    go_wp2_with fail
                    refine HC8.out.mono ?_
                    rintro e V5 hR8
                    obtain ⟨v9, rfl, hrow, hk9⟩ := hR8
                    obtain ⟨a9, c9, rfl, -⟩ := row_slice hrow
                    have HX := Lib.hid (H5.out.1.1.next HT4.out.1 hrow rfl hk9 HT4.out.2.1 HT4.out.2.2.1 HT4.out.2.2.2)
                    obtain ⟨n9, hn9⟩ : ∃ n9, (chg [(K, X)] K qs).length = n9 := ⟨_, rfl⟩
                    rw [hn9]
                    have HX2 := Lib.hid (And.intro HX.out hn9)
                    clear hrow hk9 HT4 HX hn9 H5
                    go_wp2_with fail
                    go_meet
                    case rel => exact ⟨_, _, _, _, _, _, _, rfl, rfl, rfl, HX2⟩
                · have HC := Lib.hid (vsPutBad (W := W5) (s := s) (root := root) hg)
                  have HG2 := Lib.hid fun W => r11Good ⟨id, size, rt, pin, frm⟩ W
                  rw [decide_eq_false hg] at HG2
                  unfold volV pgV at HC
                  unfold volV at HG2
                  simp only at HC HG2
                  clear hg
                  go_wp2_with fail
                  refine HC.out.mono ?_
                  rintro e V2 ⟨rfl, hk2⟩
                  have HBX := Lib.hid (H5.out.1.2.1.kept hk2 H5.out.1.2.1.lt)
                  have HV2 := Lib.hid (H5.out.1.1.old hk2)
                  clear HC p0 p1 p2 p3 p4 p5 p6 p7 hk2
                  have p1 := HBX.out.c1
                  have p2 := HBX.out.c2
                  have p3 := HBX.out.c3
                  have p4 := HBX.out.c4
                  have p5 := HBX.out.c5
                  simp only at p1 p2 p3 p4 p5
                  go_wp2_with (first | (go_at_call 23; refine (HG2.out _).mono ?_; rintro e V3 ⟨rfl, hk3⟩; have HX := Lib.hid (And.intro (HV2.out.old hk3).mono H5.out.2.1); clear hk3))
                  go_roundw
                  case rel => exact ⟨j + 1, _, _, _, _, _, _, _, rfl, by omega, by omega, by go_num, rfl, rfl, HX⟩
                  case measure => simp only [intOf]; omega
              · by_cases k3 : kd = 3
                · subst k3
                  obtain ⟨K, hK1, hK2, hK3⟩ := drop_keys id
                  have HC := Lib.hid (vsDrop hK1 hK3 H5.out.1.1.tr)
                  unfold pgV at HC
                  clear hK1 hK3
                  go_wp2_with fail
                  refine HC.out.mono ?_
                  rintro e V2 hR
                  obtain ⟨r, er, bb, M, rfl, hM, hfr, hor⟩ := hR
                  have HBX := Lib.hid (H5.out.1.2.1.kept hfr ⟨H5.out.1.2.1.lt, Nat.ne_of_gt H5.out.1.2.2⟩)
                  clear HC p0 p1 p2 p3 p4 p5 p6 p7
                  have p1 := HBX.out.c1
                  have p2 := HBX.out.c2
                  have p3 := HBX.out.c3
                  have p4 := HBX.out.c4
                  have p5 := HBX.out.c5
                  simp only at p1 p2 p3 p4 p5
                  rcases hor with ⟨rfl, rfl, rfl, ht, -⟩ | ⟨rfl, hbb, -, ht⟩
                  · have HKE := Lib.hid (HK3.out.1.go ht.kw)
                    clear ht hfr hM
                    go_wp2_with fail
                    go_ret
                    exact ⟨rfl, HKE.out⟩
                  · rw [chg_drop K H5.out.1.1.tr.srt] at ht
                    have hps2 := H5.out.1.1.ps' hfr
                    have HC8 := r8Drop ua uc qs K V2 hps2 (by have := H5.out.1.1.ln; omega)
                    obtain ⟨d, hd⟩ : ∃ d, decide ((drp K qs).length < qs.length) = d := ⟨_, rfl⟩
                    obtain rfl : bb = d := by
                      rw [← hd]
                      exact Bool.eq_iff_iff.2 (hbb.trans drp_lt.symm)
                    rw [hd, H5.out.2.1] at HC8
                    replace HC8 := Lib.hid HC8
                    have HT4 : Hid (TrN w3 s 511 r (drp K qs) (8 + (j + 1)) (N ++ M) V2 ∧ Fits (drp K qs) ∧ (drp K qs).length ≤ qs.length + 1 ∧ s < V2.heap.size) := Lib.hid ⟨by
                      obtain ⟨D, h1, h2, h3⟩ := ht
                      exact ⟨D, h1, h2.mono (by omega), h3⟩, fits_drp hps2.fits, Nat.le_succ_of_le (drp_len _ _), Nat.lt_of_lt_of_le H5.out.1.1.tr.slt hfr.size⟩
                    clear ht hfr hM hps2 hbb hd
                    go_wp2_with fail
                    refine HC8.out.mono ?_
                    rintro e V5 hR8
                    clear HC8 HBX
                    obtain ⟨v9, rfl, hrow, hk9⟩ := hR8
                    obtain ⟨a9, c9, rfl, -⟩ := row_slice hrow
                    have HX := Lib.hid (H5.out.1.1.next HT4.out.1 hrow rfl hk9 HT4.out.2.1 HT4.out.2.2.1 HT4.out.2.2.2)
                    obtain ⟨n9, hn9⟩ : ∃ n9, (drp K qs).length = n9 := ⟨_, rfl⟩
                    rw [hn9]
                    have HX2 := Lib.hid (And.intro HX.out hn9)
                    clear hrow hk9 HT4 HX hn9 H5
                    go_wp2_with fail
                    go_meet
                    case rel => exact ⟨_, _, _, _, _, _, _, rfl, rfl, rfl, HX2⟩
                · have b1 : (kd == 1) = false := by rw [beq_eq_false_iff_ne]; exact k1
                  have b2 : (kd == 2) = false := by rw [beq_eq_false_iff_ne]; exact k2
                  have b3 : (kd == 3) = false := by rw [beq_eq_false_iff_ne]; exact k3
                  have HC := Lib.hid (tnPut H5.out.1.1.tr (by omega) (by omega) H5.out.2.2.1 H5.out.2.2.2)
                  unfold pgV at HC
                  go_wp2_with fail
                  refine HC.out.mono ?_
                  rintro e V2 hR
                  obtain ⟨r, er, M, rfl, hM, hfr, hor⟩ := hR
                  have HBX := Lib.hid (H5.out.1.2.1.kept hfr ⟨H5.out.1.2.1.lt, Nat.ne_of_gt H5.out.1.2.2⟩)
                  clear HC p0 p1 p2 p3 p4 p5 p6 p7
                  have p6 := HBX.out.c6
                  have p7 := HBX.out.c7
                  rcases hor with ⟨rfl, rfl, ht, -⟩ | ⟨rfl, ht⟩
                  · have HKE := Lib.hid (HK3.out.1.go ht.kw)
                    clear ht hfr hM
                    go_wp2_with fail
                    go_ret
                    exact ⟨rfl, HKE.out⟩
                  · have hps2 := H5.out.1.1.ps' hfr
                    have HC8 := Lib.hid (r8Put ua uc qs kk xx V2 hps2 H5.out.1.1.tr.srt (by have := H5.out.1.1.ln; omega))
                    rw [H5.out.2.1] at HC8
                    have HT4 : Hid (TrN w3 s 511 r (chg [(kk, xx)] kk qs) (8 + (j + 1)) (N ++ M) V2 ∧ Fits (chg [(kk, xx)] kk qs) ∧ (chg [(kk, xx)] kk qs).length ≤ qs.length + 1 ∧ s < V2.heap.size) := Lib.hid ⟨ht, fits_chg hps2.fits H5.out.2.2.1 H5.out.2.2.2, chg_len_le11 _ _ _ _ (Nat.le_refl _), Nat.lt_of_lt_of_le H5.out.1.1.tr.slt hfr.size⟩
                    clear ht hfr hM hps2
                    go_wp2_with fail
                    refine HC8.out.mono ?_
                    rintro e V5 hR8
                    clear HC8 HBX p6 p7
                    obtain ⟨v9, rfl, hrow, hk9⟩ := hR8
                    obtain ⟨a9, c9, rfl, -⟩ := row_slice hrow
                    have HX := Lib.hid (H5.out.1.1.next HT4.out.1 hrow rfl hk9 HT4.out.2.1 HT4.out.2.2.1 HT4.out.2.2.2)
                    obtain ⟨n9, hn9⟩ : ∃ n9, (chg [(kk, xx)] kk qs).length = n9 := ⟨_, rfl⟩
                    rw [hn9]
                    have HX2 := Lib.hid (And.intro HX.out hn9)
                    clear hrow hk9 HT4 HX hn9 H5
                    go_wp2_with fail
                    go_meet
                    case rel => exact ⟨_, _, _, _, _, _, _, rfl, rfl, rfl, HX2⟩
        case rest =>
          as_aux_lemma =>
            obtain ⟨root, V, qs, N, ua, n, uc, rfl, rfl, rfl, HX⟩ := hcut
            clear p0 p1 p2 p3 p4 p5 p6 p7 H5
            have hl1000 : qs.length ≤ 1000 := by have := HX.out.1.ln; omega
            have HL := vsList HX.out.1.tr.m hl1000
            have HR := fun V (h : IsPs V ua qs) => r11List ua uc qs V h hl1000
            rw [HX.out.2] at HR
            obtain ⟨o, ho⟩ : ∃ o, volsOf (vr qs) = o := ⟨_, rfl⟩
            rw [ho] at HL HR
            replace HL := Lib.hid HL
            replace HR := Lib.hid HR
            unfold pgV at HL
            clear ho hl1000
            cases o with
            | none =>
              go_wp2_with fail
              refine HL.out.mono ?_
              rintro e V2 hR2
              obtain ⟨rfl, hk2⟩ := hR2
              have HX2 := Lib.hid (HX.out.1.old hk2)
              have HR2 := Lib.hid (HR.out V2 HX2.out.ps)
              clear HL HR hk2
              go_wp2_with fail
              refine HR2.out.mono ?_
              rintro e V3 hR3
              obtain ⟨rfl, hk3⟩ := hR3
              have HX3 := Lib.hid (And.intro (HX2.out.old hk3) HX.out.2)
              clear hk3 HX2 HR2 HX
              go_wp2_with fail
              go_roundw
              case rel => exact ⟨j + 1, _, _, _, _, _, _, _, rfl, by omega, by omega, by go_num, rfl, rfl, HX3⟩
              case measure => simp only [intOf]; omega
            | some l =>
              go_wp2_with fail
              refine HL.out.mono ?_
              rintro e V2 hR2
              obtain ⟨v2, rfl, hrow2, hk2⟩ := hR2
              obtain ⟨a2, c2, rfl⟩ := row_sliceV hrow2
              have HX2 := Lib.hid (And.intro (HX.out.1.old hk2) (row_IsVs hrow2))
              have HR2 := Lib.hid (HR.out V2 HX2.out.1.ps)
              clear HL HR hk2 hrow2
              go_wp2_with fail
              refine HR2.out.mono ?_
              rintro e V3 hR3
              obtain ⟨v3, rfl, hrow3, hk3⟩ := hR3
              obtain ⟨a3, c3, rfl⟩ := row_sliceV hrow3
              obtain ⟨m, hm⟩ : ∃ m, l.length = m := ⟨_, rfl⟩
              have HX3 := Lib.hid (And.intro (HX2.out.1.old hk3) (And.intro (HX2.out.2.old hk3) (row_IsVs hrow3)))
              have hm0 : l.length ≤ maxLen := HX2.out.2.len
              have hmI : (m : Int) ≤ 9223372036854775807 := by unfold maxLen at hm0; omega
              have HM := Lib.hid (And.intro hm HX.out.2)
              rw [hm]
              clear hk3 HX2 HR2 hrow3 hm hm0 HX
              go_wp2_with fail
              go_loopw [21] (fun i wr => ∃ (t : Nat) (U : World), U = wr ∧ t ≤ m ∧ i = .int .i64 (t : Int) ∧ Hid (Vi w3 s (j + 1) root qs N ua U ∧ IsVs U a2 l ∧ IsVs U a3 l)) (fun i _ => m - (intOf i).toNat)
              case atStart => exact ⟨0, _, rfl, Nat.zero_le _, rfl, HX3⟩
              case round =>
                obtain ⟨t, U, rfl, ht, rfl, HU⟩ := hrel
                clear HX3
                by_cases hlt3 : t < m
                · have t0 : (0 : Int) ≤ (t : Int) := by omega
                  have t1 : (t : Int) < (m : Int) := by omega
                  have htl : t < l.length := by rw [HM.out.1]; exact hlt3
                  obtain ⟨b2, o2, rfl, hb2, hc2⟩ := HU.out.2.1.cells (by omega)
                  obtain ⟨b3, o3, rfl, hb3, hc3⟩ := HU.out.2.2.cells (by omega)
                  obtain ⟨y0, y1, y2, y3, y4⟩ := hc2 t htl
                  obtain ⟨z0, z1, z2, z3, z4⟩ := hc3 t htl
                  obtain ⟨⟨i2, s2, r2, p2, f2⟩, hv⟩ : ∃ v, l[t] = v := ⟨_, rfl⟩
                  rw [hv] at y0 y1 y2 y3 y4 z0 z1 z2 z3 z4
                  simp only at y0 y1 y2 y3 y4 z0 z1 z2 z3 z4
                  clear hc2 hc3 hv htl hb2 hb3
                  go_wp2_with fail
                  go_quiet (fail)
                  go_wp2_with fail
                  go_roundw
                  case rel => exact ⟨t + 1, _, rfl, by omega, by go_num, Lib.hid ⟨HU.out.1.old ((KeptIn.refl _ _).drewN nq), HU.out.2.1.old ((KeptIn.refl _ _).drewN nq), HU.out.2.2.old ((KeptIn.refl _ _).drewN nq)⟩⟩
                  case measure => simp only [intOf]; omega
                · have t1 : ¬ (t : Int) < (m : Int) := by omega
                  have HXE := Lib.hid (And.intro HU.out.1 HM.out.2)
                  clear HU
                  go_wp2_with fail
                  go_roundw
                  case rel => exact ⟨j + 1, _, _, _, _, _, _, _, rfl, by omega, by omega, by go_num, rfl, rfl, HXE⟩
                  case measure => simp only [intOf]; omega
      · have d2 : ¬ (j : Int) < 40 := by omega
        have HKE := Lib.hid (HK3.out.1.go HJ.out.1.tr.kw)
        clear HJ
        go_wp2_with fail
        go_ret
        exact ⟨rfl, HKE.out⟩
    · have d1 : ¬ (j : Int) < (len : Int) := by omega
      have HKE := Lib.hid (HK3.out.1.go HJ.out.1.tr.kw)
      clear HJ
      go_wp2_with fail
      go_ret
      exact ⟨rfl, HKE.out⟩

end Go.Proofs.Ytlnlgapjlekehaa
