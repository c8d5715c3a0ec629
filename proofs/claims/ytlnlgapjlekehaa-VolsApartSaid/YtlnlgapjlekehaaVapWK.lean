import Derived.Test.YtlnlgapjlekehaaVy11K
import Derived.Deep.Cut
import Derived.Deep.CutRange
import Derived.Deep.CutBlock
import Derived.Deep.RegionLaw
import Derived.Test.YtlnlgapjlekehaaNums
import Derived.BigRegion
import Derived.Deep.WholeRow
/- VolsApart of layer 11: the walk: it returns true for every input and writes nothing that was there. -/
set_option linter.unusedVariables false
namespace Go.Proofs.Ytlnlgapjlekehaa
open Go.RowKit

theorem zc79 : Try.zeroCells79 = (cellsV (List.replicate 17 vol0)).toArray := by kernel_rfl

theorem vol_inj {v u : Vol} (hv : GoodV v) (hu : GoodV u) (hk : keyV v = keyV u) (hx : valV v = valV u) : v = u := by
  have h1 := readVol_pair hv
  rw [hk, hx, readVol_pair hu] at h1
  exact (Option.some.inj h1).symm

theorem pres_at {A : List Vol} {m : Nat} (hm : m < 16) (h : (atV A (m + 1)).id = ((m + 1 : Nat) : Int)) : ∃ hl : (pres A m).length < (pres A 16).length, (pres A 16)[(pres A m).length] = atV A (m + 1) ∧ (pres A (m + 1)).length = (pres A m).length + 1 := by
  obtain ⟨r, hr⟩ := pres_more A (m + 1) (16 - (m + 1))
  rw [show m + 1 + (16 - (m + 1)) = 16 by omega] at hr
  have e : pres A (m + 1) = pres A m ++ [atV A (m + 1)] := by rw [pres, if_pos h]
  rw [e] at hr
  refine ⟨by rw [hr]; simp, ?_, by rw [e]; simp⟩
  simp only [hr]
  rw [List.getElem_append_left (by simp), List.getElem_append_right (Nat.le_refl _)]
  simp
theorem pres_not {A : List Vol} {m : Nat} (h : (atV A (m + 1)).id ≠ ((m + 1 : Nat) : Int)) : pres A (m + 1) = pres A m := by
  rw [pres, if_neg h, List.append_nil]


set_option maxHeartbeats 16000000 in
set_option maxRecDepth 100000 in
theorem vapW (a : Option Addr) (len cap : Nat) (gone : Int) (w : World) (w0 : ∃ vs, vs.length = len ∧ IsVs w a vs) (w1 : (Lit.int .i64 gone).wf = true) :
    Calls Try.prog 6 #[.slice a len cap, .int .i64 gone] w fun e w' => e = .returned (.bool true) ∧ KeptIn (· < w.heap.size) w w' := by
  obtain ⟨vs, hvl, hvs⟩ := w0
  have l0 := hvs.len
  unfold maxLen at l0
  have b0 : (len : Int) ≤ 9223372036854775807 := by omega
  have W0 := Lib.hid (And.intro hvl hvs)
  clear l0 hvl hvs w1
  by_cases hbig : 16 < len
  · have b1 : (16 : Int) < (len : Int) := by omega
    go_enter Try.func6, Try.ntmps6
    go_wp2_with fail
    refine (awake11 w).mono ?_
    rintro e w3 ⟨rfl, k3⟩
    go_wp2_with fail
    go_ret
    exact ⟨rfl, k3⟩
  have b1 : ¬ (16 : Int) < (len : Int) := by omega
  have b2 : len ≤ 16 := by omega
  have b3 : (len : Int) ≤ 16 := by omega
  clear hbig
  go_enter Try.func6, Try.ntmps6
  go_wp2_with fail
  refine (awake11 w).mono ?_
  rintro e w3 ⟨rfl, k3⟩
  obtain ⟨W1, hW1⟩ : ∃ W1, w3.alloc (.cells #[.slice none 0 0, .int .i64 511] 28) = W1 := ⟨_, rfl⟩
  have ht := tn_new2 w3 511 (by decide) W1 hW1.symm
  obtain ⟨s, hs⟩ : ∃ s, w3.heap.size = s := ⟨_, rfl⟩
  have hs1 : W1.heap.size = s + 1 := by rw [← hW1, World.size_alloc, hs]
  have hst := run_storeCells_new (P := Try.prog) (w3.alloc (.cells #[.slice none 0 0, .int .i64 511] 28)) 79 Try.zeroCells79 Try.zeroCells79 (by kernel_rfl) rfl (by kernel_rfl)
  rw [World.size_alloc] at hst
  obtain ⟨W2, hW2⟩ : ∃ W2, W1.alloc (.cells Try.zeroCells79 79) = W2 := ⟨_, rfl⟩
  have hk2 : KeptIn (· < W1.heap.size) W1 W2 := by rw [← hW2]; exact (KeptIn.refl _ W1).alloc (fun _ h => h) _
  have hr2 : RowA (s + 1) (List.replicate 17 vol0) W2 := by
    have := heap_alloc_new W1 (.cells Try.zeroCells79 79)
    rw [hW2, hs1, zc79] at this
    exact this
  rw [hs] at ht
  have HI0 : Hid (Va w3 s (s + 1) 0 0 (List.replicate 17 vol0) [] W2) := Lib.hid ⟨by rw [prs_zero]; exact ht.old hk2, Nat.zero_le _, hr2, okA_zero, Nat.lt_succ_self _, by omega⟩
  have HK3 := Lib.hid (And.intro k3 hs)
  have HW := Lib.hid (And.intro hW1 (And.intro hW2 (And.intro hs hs1)))
  clear ht hs hs1 hW1 hW2 hk2 k3 hr2
  obtain ⟨u, hu⟩ : ∃ u, s + 1 = u := ⟨_, rfl⟩
  rw [hu] at HI0
  have HU := Lib.hid hu
  clear hu
  go_wp2_with fail
  rw [HW.out.1, HW.out.2.1]
  simp only [HW.out.2.2.1, HU.out]
  go_loopw [6, 8, 9, 10, 11, 12, 13, 14] (fun r i _ _ _ _ _ _ wr => ∃ (j root : Nat) (V : World) (A : List Vol) (N : List Nd), V = wr ∧ j ≤ len ∧ i = .int .i64 (j : Int) ∧ r = .int .i64 (root : Int) ∧ Hid (Va w3 s u j root A N V)) (fun _ i _ _ _ _ _ _ _ => len - (intOf i).toNat)
  case atStart => exact ⟨0, 0, _, _, _, rfl, Nat.zero_le _, rfl, rfl, HI0⟩
  case round =>
    obtain ⟨j, root, V, A, N, rfl, hj, rfl, rfl, HJ⟩ := hrel
    clear HI0
    have d0 : (0 : Int) ≤ (j : Int) := by omega
    by_cases hlt : j < len
    · have d1 : (j : Int) < (len : Int) := by omega
      have d2 : (0 : Int) < (len : Int) := by omega
      have hjl : j < vs.length := by rw [W0.out.1]; exact hlt
      obtain ⟨b, off, rfl, hb, hc⟩ := W0.out.2.cells (by omega)
      have HGC := Lib.hid fun (X : World) (hk : KeptIn (· < w.heap.size) w X) => And.intro ((World.cell?_of_block (a := ⟨b, off + j * 5, none⟩) (hk.block b hb)).trans (hc j hjl).1) (And.intro ((World.cell?_of_block (a := ⟨b, off + j * 5 + 1, none⟩) (hk.block b hb)).trans (hc j hjl).2.1) (And.intro ((World.cell?_of_block (a := ⟨b, off + j * 5 + 2, none⟩) (hk.block b hb)).trans (hc j hjl).2.2.1) (And.intro ((World.cell?_of_block (a := ⟨b, off + j * 5 + 3, none⟩) (hk.block b hb)).trans (hc j hjl).2.2.2.1) ((World.cell?_of_block (a := ⟨b, off + j * 5 + 4, none⟩) (hk.block b hb)).trans (hc j hjl).2.2.2.2))))
      have HG0 := Lib.hid fun (X : World) (hk : KeptIn (· < w.heap.size) w X) => And.intro ((World.cell?_of_block (a := ⟨b, off + 0 * 5, none⟩) (hk.block b hb)).trans (hc 0 (by omega)).1) (And.intro ((World.cell?_of_block (a := ⟨b, off + 0 * 5 + 1, none⟩) (hk.block b hb)).trans (hc 0 (by omega)).2.1) (And.intro ((World.cell?_of_block (a := ⟨b, off + 0 * 5 + 2, none⟩) (hk.block b hb)).trans (hc 0 (by omega)).2.2.1) (And.intro ((World.cell?_of_block (a := ⟨b, off + 0 * 5 + 3, none⟩) (hk.block b hb)).trans (hc 0 (by omega)).2.2.2.1) ((World.cell?_of_block (a := ⟨b, off + 0 * 5 + 4, none⟩) (hk.block b hb)).trans (hc 0 (by omega)).2.2.2.2))))
      simp only [Nat.zero_mul, Nat.add_zero] at HG0
      obtain ⟨⟨id, size, rt, pin, frm⟩, hv⟩ : ∃ v, vs[j] = v := ⟨_, rfl⟩
      obtain ⟨⟨id0, size0, rt0, pin0, frm0⟩, hv0⟩ : ∃ v, vs[0]'(by omega) = v := ⟨_, rfl⟩
      rw [hv] at HGC
      rw [hv0] at HG0
      simp only at HGC HG0
      have hkV := HK3.out.1.go HJ.out.tr.kw
      obtain ⟨g0, g1, g2, g3, g4⟩ := HGC.out V hkV
      clear hc hjl hv hv0 hkV
      by_cases hg : GoodV ⟨id, size, rt, pin, frm⟩
      · have HG := Lib.hid fun W => vsGood ⟨id, size, rt, pin, frm⟩ W
        rw [decide_eq_true hg] at HG
        unfold volV at HG
        simp only at HG
        obtain ⟨i, hi⟩ : ∃ i : Nat, id = (i : Int) := ⟨id.toNat, by have := hg.1; simp only at this; omega⟩
        subst hi
        have i1 : 1 ≤ i := by have := hg.1; simp only at this; omega
        have i2 : i ≤ 16 := by have := hg.2.1; simp only at this; omega
        have i3 : (0 : Int) ≤ (i : Int) := by omega
        have i4 : (i : Int) < 17 := by omega
        have HGD := Lib.hid hg
        go_wp2_with fail
        refine (HG.out _).mono ?_
        rintro e V1 ⟨rfl, hk1⟩
        have HJ1 := Lib.hid (HJ.out.old hk1)
        clear HJ hk1 g0 g1 g2 g3 g4 HG
        obtain ⟨g0, g1, g2, g3, g4⟩ := HGC.out V1 (HK3.out.1.go HJ1.out.tr.kw)
        have HC := Lib.hid (vsPut hg HJ1.out.tr (by omega) (by omega))
        unfold volV pgV at HC
        simp only at HC
        clear hg
        go_wp2_with fail
        refine HC.out.mono ?_
        rintro e V2 hR
        obtain ⟨r, er, M, rfl, hM, hfr, hor⟩ := hR
        have hnl := HJ1.out.nl
        have hor2 := hor.resolve_left (by
          rintro ⟨_, _, _, h⟩
          rw [List.length_append] at h
          omega)
        obtain ⟨rfl, ht⟩ := hor2
        rw [prs_put HJ1.out.ok HGD.out rfl i1 i2] at ht
        have hu1 : u ≠ s := Nat.ne_of_gt HJ1.out.su
        have hra : RowA u A V2 := HJ1.out.row.kept (hfr.block u ⟨HJ1.out.row.lt, hu1⟩)
        have HT := Lib.hid (And.intro ht (And.intro hra (And.intro HJ1.out.ok (And.intro HJ1.out.su (And.intro HJ1.out.wu (show (N ++ M).length ≤ 5 * (j + 1) by rw [List.length_append]; omega))))))
        clear HC g0 g1 g2 g3 g4 HJ1 hM hfr hor ht hra hnl hu1
        have HKW := Lib.hid (HK3.out.1.go HT.out.1.kw)
        obtain ⟨g0, g1, g2, g3, g4⟩ := HGC.out V2 HKW.out
        obtain ⟨q0, q1, q2, q3, q4⟩ := HT.out.2.1.cells (i := i) (by rw [HT.out.2.2.1.1]; omega)
        have r0 := HT.out.2.1.fr (i * 5)
        have r1 := HT.out.2.1.fr (i * 5 + 1)
        have r2 := HT.out.2.1.fr (i * 5 + 2)
        have r3 := HT.out.2.1.fr (i * 5 + 3)
        have r4 := HT.out.2.1.fr (i * 5 + 4)
        go_wp2_with fail
        go_region
        have HJ3 : Hid (Va w3 s u (j + 1) r (A.set i ⟨(i : Int), size, rt, pin, frm⟩) (N ++ M) (((((V2.setCell ⟨u, i * 5, none⟩ (.int .i64 (i : Int))).setCell ⟨u, i * 5 + 1, none⟩ (.int .i64 size)).setCell ⟨u, i * 5 + 2, none⟩ (.int .i64 rt)).setCell ⟨u, i * 5 + 3, none⟩ (.bool pin)).setCell ⟨u, i * 5 + 4, none⟩ (.int .i64 frm)).drew) := Lib.hid (by
          have hk : KeptIn (· ≠ u) V2 (((((V2.setCell ⟨u, i * 5, none⟩ (.int .i64 (i : Int))).setCell ⟨u, i * 5 + 1, none⟩ (.int .i64 size)).setCell ⟨u, i * 5 + 2, none⟩ (.int .i64 rt)).setCell ⟨u, i * 5 + 3, none⟩ (.bool pin)).setCell ⟨u, i * 5 + 4, none⟩ (.int .i64 frm)).drew := ((((((KeptIn.refl _ V2).setCell (p := ⟨u, i * 5, none⟩) (by simp) _).setCell (p := ⟨u, i * 5 + 1, none⟩) (by simp) _).setCell (p := ⟨u, i * 5 + 2, none⟩) (by simp) _).setCell (p := ⟨u, i * 5 + 3, none⟩) (by simp) _).setCell (p := ⟨u, i * 5 + 4, none⟩) (by simp) _).drew
          exact ⟨HT.out.1.store HT.out.2.1 HT.out.2.2.2.2.1 hk, HT.out.2.2.2.2.2, HT.out.2.1.set (by rw [HT.out.2.2.1.1]; omega) ⟨(i : Int), size, rt, pin, frm⟩, HT.out.2.2.1.set i2 (fun _ => HGD.out), HT.out.2.2.2.1, HT.out.2.2.2.2.1⟩)
        generalize (((((V2.setCell ⟨u, i * 5, none⟩ (.int .i64 (i : Int))).setCell ⟨u, i * 5 + 1, none⟩ (.int .i64 size)).setCell ⟨u, i * 5 + 2, none⟩ (.int .i64 rt)).setCell ⟨u, i * 5 + 3, none⟩ (.bool pin)).setCell ⟨u, i * 5 + 4, none⟩ (.int .i64 frm)).drew = V3 at *
        clear HT HKW g0 g1 g2 g3 g4 q0 q1 q2 q3 q4 r0 r1 r2 r3 r4
        obtain ⟨g0, g1, g2, g3, g4⟩ := HGC.out V3 (HK3.out.1.go HJ3.out.tr.kw)
        have HP := Lib.hid fun W => vsPair ⟨(i : Int), size, rt, pin, frm⟩ W
        have HP0 := Lib.hid fun W => vsPair ⟨id0, size0, rt0, pin0, frm0⟩ W
        unfold PairS at HP HP0
        rw [if_pos HGD.out] at HP
        obtain ⟨K, hK⟩ : ∃ K, keyV ⟨(i : Int), size, rt, pin, frm⟩ = K := ⟨_, rfl⟩
        obtain ⟨X, hX⟩ : ∃ X, valV ⟨(i : Int), size, rt, pin, frm⟩ = X := ⟨_, rfl⟩
        rw [hK, hX] at HP
        have HKX := Lib.hid (And.intro hK hX)
        unfold volV pairV at HP
        simp only at HP
        clear hK hX
        go_wp2_with fail
        refine (HP.out _).mono ?_
        rintro e V4 ⟨rfl, hk4⟩
        have hkw4 := (HK3.out.1.go HJ3.out.tr.kw).go (hk4.alloc (fun _ h => h) (.cells #[.int .u64 (K : Int), .int .u64 (X : Int)] 38))
        have HJ4 := Lib.hid (And.intro (HJ3.out.old (hk4.alloc (fun _ h => h) (.cells #[.int .u64 (K : Int), .int .u64 (X : Int)] 38))) (BoxP.new V4 K X))
        clear g0 g1 g2 g3 g4 hk4 HJ3 HP
        obtain ⟨g0, g1, g2, g3, g4⟩ := HG0.out _ hkw4
        clear hkw4
        obtain ⟨K0, X0, f0, hP0⟩ : ∃ (K0 X0 f0 : Nat), (if GoodV ⟨id0, size0, rt0, pin0, frm0⟩ then Value.tuple #[pairV (keyV ⟨id0, size0, rt0, pin0, frm0⟩, valV ⟨id0, size0, rt0, pin0, frm0⟩), .int .i64 0] else .tuple #[pairV (0, 0), .int .i64 1]) = .tuple #[pairV (K0, X0), .int .i64 (f0 : Int)] ∧ ((f0 = 0 ∧ GoodV ⟨id0, size0, rt0, pin0, frm0⟩ ∧ K0 = keyV ⟨id0, size0, rt0, pin0, frm0⟩ ∧ X0 = valV ⟨id0, size0, rt0, pin0, frm0⟩) ∨ f0 = 1) := by
          by_cases hg0 : GoodV ⟨id0, size0, rt0, pin0, frm0⟩
          · rw [if_pos hg0]
            exact ⟨_, _, 0, rfl, .inl ⟨rfl, hg0, rfl, rfl⟩⟩
          · rw [if_neg hg0]
            exact ⟨0, 0, 1, rfl, .inr rfl⟩
        rw [hP0.1] at HP0
        have HF0 := Lib.hid hP0.2
        unfold volV pairV at HP0
        simp only at HP0
        clear hP0
        go_wp2_with fail
        refine (HP0.out _).mono ?_
        rintro e V5 ⟨rfl, hk5⟩
        obtain ⟨W5, hW5⟩ : ∃ W5, V5.alloc (.cells #[.int .u64 (K0 : Int), .int .u64 (X0 : Int)] 38) = W5 := ⟨_, rfl⟩
        have hk5' := hk5.alloc (fun _ h => h) (.cells #[.int .u64 (K0 : Int), .int .u64 (X0 : Int)] 38)
        rw [hW5] at hk5'
        have hb5 : BoxP V5.heap.size K0 X0 W5 := by rw [← hW5]; exact BoxP.new V5 K0 X0
        have HJ5 := Lib.hid (And.intro (HJ4.out.1.old hk5') (And.intro (HJ4.out.2.kept hk5' HJ4.out.2.lt) hb5))
        obtain ⟨xa, hxa⟩ : ∃ xa, V4.heap.size = xa := ⟨_, rfl⟩
        obtain ⟨xb, hxb⟩ : ∃ xb, V5.heap.size = xb := ⟨_, rfl⟩
        rw [hxa, hxb] at HJ5
        have HW5 := Lib.hid (And.intro hW5 (And.intro hxa hxb))
        clear HJ4 hk5 hk5' hb5 g0 g1 g2 g3 g4 hW5 hxa hxb HP0
        go_wp2_with fail
        rw [HW5.out.1]
        simp only [HW5.out.2.1, HW5.out.2.2]
        have HJ6 := Lib.hid HJ5.out.1
        obtain ⟨g0, g1, g2, g3, g4⟩ := HGC.out W5 (HK3.out.1.go HJ6.out.tr.kw)
        obtain ⟨y0, y1, y2, y3, y4⟩ := HG0.out W5 (HK3.out.1.go HJ6.out.tr.kw)
        have p0 := HJ5.out.2.1.c0
        have p1 := HJ5.out.2.1.c1
        have z0 := HJ5.out.2.2.c0
        have z1 := HJ5.out.2.2.c1
        clear HW5 HJ5
        rcases HF0.out with ⟨rfl, hg0, hK0, hX0⟩ | rfl
        · by_cases e0 : (i : Int) = id0
          · subst e0
            by_cases e1 : size = size0
            · subst e1
              by_cases e2 : rt = rt0
              · subst e2
                by_cases e3 : pin = pin0
                · subst e3
                  by_cases e4 : frm = frm0
                  · subst e4
                    obtain rfl : K = K0 := HKX.out.1.symm.trans hK0.symm
                    obtain rfl : X = X0 := HKX.out.2.symm.trans hX0.symm
                    clear hK0 hX0 hg0
                    go_quiet (fail)
                    go_wp2_with fail
                    go_roundw
                    case rel => exact ⟨j + 1, _, _, _, _, rfl, by omega, by go_num, rfl, Lib.hid (HJ6.out.old ((KeptIn.refl _ _).drewN nq))⟩
                    case measure => simp only [intOf]; omega
                  · have n1 : (frm == frm0) = false := by rw [beq_eq_false_iff_ne]; exact e4
                    have hne : ¬ X = X0 := fun e => e4 (Vol.mk.inj (vol_inj HGD.out hg0 rfl (HKX.out.2.trans (e.trans hX0)))).2.2.2.2
                    obtain rfl : K = K0 := HKX.out.1.symm.trans hK0.symm
                    have m1 : ((X : Int) == (X0 : Int)) = false := by rw [beq_eq_false_iff_ne]; omega
                    have m2 : (X == X0) = false := by rw [beq_eq_false_iff_ne]; exact hne
                    clear hne hK0 hX0 hg0
                    go_quiet (fail)
                    go_wp2_with fail
                    go_roundw
                    case rel => exact ⟨j + 1, _, _, _, _, rfl, by omega, by go_num, rfl, Lib.hid (HJ6.out.old ((KeptIn.refl _ _).drewN nq))⟩
                    case measure => simp only [intOf]; omega
                · have n1 : (pin == pin0) = false := by rw [beq_eq_false_iff_ne]; exact e3
                  have hne : ¬ X = X0 := fun e => e3 (Vol.mk.inj (vol_inj HGD.out hg0 rfl (HKX.out.2.trans (e.trans hX0)))).2.2.2.1
                  obtain rfl : K = K0 := HKX.out.1.symm.trans hK0.symm
                  have m1 : ((X : Int) == (X0 : Int)) = false := by rw [beq_eq_false_iff_ne]; omega
                  have m2 : (X == X0) = false := by rw [beq_eq_false_iff_ne]; exact hne
                  clear hne hK0 hX0 hg0
                  go_quiet (fail)
                  go_wp2_with fail
                  go_roundw
                  case rel => exact ⟨j + 1, _, _, _, _, rfl, by omega, by go_num, rfl, Lib.hid (HJ6.out.old ((KeptIn.refl _ _).drewN nq))⟩
                  case measure => simp only [intOf]; omega
              · have n1 : (rt == rt0) = false := by rw [beq_eq_false_iff_ne]; exact e2
                have hne : ¬ X = X0 := fun e => e2 (Vol.mk.inj (vol_inj HGD.out hg0 rfl (HKX.out.2.trans (e.trans hX0)))).2.2.1
                obtain rfl : K = K0 := HKX.out.1.symm.trans hK0.symm
                have m1 : ((X : Int) == (X0 : Int)) = false := by rw [beq_eq_false_iff_ne]; omega
                have m2 : (X == X0) = false := by rw [beq_eq_false_iff_ne]; exact hne
                clear hne hK0 hX0 hg0
                go_quiet (fail)
                go_wp2_with fail
                go_roundw
                case rel => exact ⟨j + 1, _, _, _, _, rfl, by omega, by go_num, rfl, Lib.hid (HJ6.out.old ((KeptIn.refl _ _).drewN nq))⟩
                case measure => simp only [intOf]; omega
            · have n1 : (size == size0) = false := by rw [beq_eq_false_iff_ne]; exact e1
              have hne : ¬ X = X0 := fun e => e1 (Vol.mk.inj (vol_inj HGD.out hg0 rfl (HKX.out.2.trans (e.trans hX0)))).2.1
              obtain rfl : K = K0 := HKX.out.1.symm.trans hK0.symm
              have m1 : ((X : Int) == (X0 : Int)) = false := by rw [beq_eq_false_iff_ne]; omega
              have m2 : (X == X0) = false := by rw [beq_eq_false_iff_ne]; exact hne
              clear hne hK0 hX0 hg0
              go_quiet (fail)
              go_wp2_with fail
              go_roundw
              case rel => exact ⟨j + 1, _, _, _, _, rfl, by omega, by go_num, rfl, Lib.hid (HJ6.out.old ((KeptIn.refl _ _).drewN nq))⟩
              case measure => simp only [intOf]; omega
          · have hne : ¬ K = K0 := fun e => e0 (by
              have h1 := good_key HGD.out
              have h2 := good_key hg0
              rw [HKX.out.1] at h1
              rw [← hK0] at h2
              simp only at h1 h2
              omega)
            have n1 : ((i : Int) == id0) = false := by rw [beq_eq_false_iff_ne]; exact e0
            have m1 : ((K : Int) == (K0 : Int)) = false := by rw [beq_eq_false_iff_ne]; omega
            have m2 : (K == K0) = false := by rw [beq_eq_false_iff_ne]; exact hne
            clear hne hK0 hX0 hg0
            go_quiet (fail)
            go_wp2_with fail
            go_roundw
            case rel => exact ⟨j + 1, _, _, _, _, rfl, by omega, by go_num, rfl, Lib.hid (HJ6.out.old ((KeptIn.refl _ _).drewN nq))⟩
            case measure => simp only [intOf]; omega
        · go_quiet (fail)
          go_wp2_with fail
          go_roundw
          case rel => exact ⟨j + 1, _, _, _, _, rfl, by omega, by go_num, rfl, Lib.hid (HJ6.out.old ((KeptIn.refl _ _).drewN nq))⟩
          case measure => simp only [intOf]; omega
      · have HG := Lib.hid fun W => vsGood ⟨id, size, rt, pin, frm⟩ W
        rw [decide_eq_false hg] at HG
        unfold volV at HG
        simp only at HG
        clear hg
        go_wp2_with (first | (go_at_call 22; refine (HG.out _).mono ?_; rintro e V1 ⟨rfl, hk1⟩; have HJ1 := Lib.hid (HJ.out.old hk1).mono; clear hk1))
        go_roundw
        case rel => exact ⟨j + 1, _, _, _, _, rfl, by omega, by go_num, rfl, HJ1⟩
        case measure => simp only [intOf]; omega
    · have d1 : ¬ (j : Int) < (len : Int) := by omega
      obtain ⟨k0, hk0, hk1⟩ : ∃ k : Nat, k < 16 ∧ wrap64 ((IntKind.u64.wrap gone).tmod 16) = (k : Int) := modWalk gone 16 (by decide) (by decide)
      obtain ⟨k, hk⟩ : ∃ k, k0 + 1 = k := ⟨_, rfl⟩
      have hk2 : wrap64 (1 + wrap64 ((IntKind.u64.wrap gone).tmod 16)) = (k : Int) := by rw [hk1]; unfold wrap64; omega
      have k1 : 1 ≤ k := by omega
      have k2 : k ≤ 16 := by omega
      clear hk0 hk1 hk
      have i3 : (0 : Int) ≤ (k : Int) := by omega
      have i4 : (k : Int) < 17 := by omega
      have HC := Lib.hid (vsDrop (id := (k : Int)) (k := 4294967296 + k) (by rw [IntKind.wrap_u64]; omega) (by omega) HJ.out.tr)
      unfold pgV at HC
      have HKK := Lib.hid (And.intro k1 k2)
      go_wp2_with fail
      clear hk2
      refine HC.out.mono ?_
      rintro e V2 hR
      obtain ⟨r, er, bb, M, rfl, hM, hfr, hor⟩ := hR
      have hnl := HJ.out.nl
      have hor2 := hor.resolve_left (by
        rintro ⟨_, _, _, _, h⟩
        rw [List.length_append] at h
        omega)
      obtain ⟨rfl, hbb, -, ht⟩ := hor2
      rw [prs_drop HJ.out.ok k1 k2] at ht
      have hbb2 := hbb.trans (prs_has HJ.out.ok k1 k2)
      have hra : RowA u A V2 := HJ.out.row.kept (hfr.block u ⟨HJ.out.row.lt, Nat.ne_of_gt HJ.out.su⟩)
      have HT := Lib.hid (And.intro ht (And.intro hra (And.intro HJ.out.ok (And.intro HJ.out.su HJ.out.wu))))
      obtain ⟨q0, q1, q2, q3, q4⟩ := hra.cells (i := k) (by rw [HT.out.2.2.1.1]; omega)
      obtain ⟨⟨ix, sx, rx, px, fx⟩, hx⟩ : ∃ x, atV A k = x := ⟨_, rfl⟩
      rw [hx] at q0 q1 q2 q3 q4 hbb2
      simp only at q0 q1 q2 q3 q4 hbb2
      have hb9 : (ix == (k : Int)) = bb := by
        rw [Bool.eq_iff_iff, beq_iff_eq]
        exact hbb2.symm
      have r0 := HT.out.2.1.fr (k * 5)
      have r1 := HT.out.2.1.fr (k * 5 + 1)
      have r2 := HT.out.2.1.fr (k * 5 + 2)
      have r3 := HT.out.2.1.fr (k * 5 + 3)
      have r4 := HT.out.2.1.fr (k * 5 + 4)
      have HNL : Hid ((N ++ M).length ≤ 5 * (j + 1)) := Lib.hid (by rw [List.length_append]; omega)
      clear hM hfr hor hbb hbb2 hra hx ht hnl HJ HC
      go_wp2_with fail
      have HJ3 : Hid (Va w3 s u (j + 1) r (A.set k vol0) (N ++ M) (((((V2.setCell ⟨u, k * 5, none⟩ (.int .i64 0)).setCell ⟨u, k * 5 + 1, none⟩ (.int .i64 0)).setCell ⟨u, k * 5 + 2, none⟩ (.int .i64 0)).setCell ⟨u, k * 5 + 3, none⟩ (.bool false)).setCell ⟨u, k * 5 + 4, none⟩ (.int .i64 0))) := Lib.hid (by
        have hk : KeptIn (· ≠ u) V2 (((((V2.setCell ⟨u, k * 5, none⟩ (.int .i64 0)).setCell ⟨u, k * 5 + 1, none⟩ (.int .i64 0)).setCell ⟨u, k * 5 + 2, none⟩ (.int .i64 0)).setCell ⟨u, k * 5 + 3, none⟩ (.bool false)).setCell ⟨u, k * 5 + 4, none⟩ (.int .i64 0)) := (((((KeptIn.refl _ V2).setCell (p := ⟨u, k * 5, none⟩) (by simp) _).setCell (p := ⟨u, k * 5 + 1, none⟩) (by simp) _).setCell (p := ⟨u, k * 5 + 2, none⟩) (by simp) _).setCell (p := ⟨u, k * 5 + 3, none⟩) (by simp) _).setCell (p := ⟨u, k * 5 + 4, none⟩) (by simp) _
        have h1 := HT.out.1.store HT.out.2.1 HT.out.2.2.2.2 hk
        obtain ⟨D, g1, g2, g3⟩ := h1
        exact ⟨⟨D, g1, g2.mono (by omega), g3⟩, HNL.out, HT.out.2.1.set (by rw [HT.out.2.2.1.1]; omega) vol0, HT.out.2.2.1.set k2 (fun e => by
          have : (0 : Int) = (k : Int) := e
          omega), HT.out.2.2.2.1, HT.out.2.2.2.2⟩)
      generalize (((((V2.setCell ⟨u, k * 5, none⟩ (.int .i64 0)).setCell ⟨u, k * 5 + 1, none⟩ (.int .i64 0)).setCell ⟨u, k * 5 + 2, none⟩ (.int .i64 0)).setCell ⟨u, k * 5 + 3, none⟩ (.bool false)).setCell ⟨u, k * 5 + 4, none⟩ (.int .i64 0)) = V3 at *
      clear HT q0 q1 q2 q3 q4 r0 r1 r2 r3 r4 hb9 HNL
      generalize A.set k vol0 = A' at *
      have hpl : (prs A').length ≤ 1000 := by
        unfold prs
        rw [List.length_map]
        have := pres_len A' 16
        omega
      have HL := vsList HJ3.out.tr.m hpl
      rw [vols_prs HJ3.out.ok] at HL
      unfold pgV at HL
      replace HL := Lib.hid HL
      clear hpl
      refine HL.out.mono ?_
      rintro e V4 hR4
      obtain ⟨v4, rfl, hrow4, hk4⟩ := hR4
      obtain ⟨a4, c4, rfl⟩ := row_sliceV hrow4
      obtain ⟨m, hm⟩ : ∃ m, (pres A' 16).length = m := ⟨_, rfl⟩
      have hm16 : (m : Int) ≤ 16 := by have := pres_len A' 16; omega
      have HJ4 := Lib.hid (And.intro (HJ3.out.old hk4) (row_IsVs hrow4))
      have HM := Lib.hid hm
      rw [hm]
      clear hk4 hrow4 HL HJ3 hm
      go_wp2_with fail
      go_loopw [21, 22] (fun n i wr => ∃ (t nn : Nat) (U : World), U = wr ∧ t ≤ 16 ∧ i = .int .i64 ((t + 1 : Nat) : Int) ∧ n = .int .i64 (nn : Int) ∧ Hid (Va w3 s u (j + 1) r A' (N ++ M) U ∧ IsVs U a4 (pres A' 16) ∧ (pres A' t).length = nn)) (fun _ i _ => 17 - (intOf i).toNat)
      case atStart => exact ⟨0, 0, _, rfl, Nat.zero_le _, rfl, rfl, Lib.hid ⟨HJ4.out.1, HJ4.out.2, rfl⟩⟩
      case round =>
        obtain ⟨t, nn, U, rfl, ht, rfl, rfl, HU⟩ := hrel
        clear HJ4
        obtain ⟨t', ht'⟩ : ∃ t', t + 1 = t' := ⟨_, rfl⟩
        rw [ht']
        by_cases hlt4 : t < 16
        · have t0 : (0 : Int) ≤ (t' : Int) := by omega
          have t1 : (t' : Int) ≤ 16 := by omega
          have t2 : (t' : Int) < 17 := by omega
          have hn16 : nn ≤ 16 := by
            have := pres_len A' t
            rw [HU.out.2.2] at this
            omega
          have n0 : (0 : Int) ≤ (nn : Int) := by omega
          have n1 : (nn : Int) ≤ 16 := by omega
          obtain ⟨q0, q1, q2, q3, q4⟩ := HU.out.1.row.cells (i := t') (by rw [HU.out.1.ok.1]; omega)
          obtain ⟨⟨ix, sx, rx, px, fx⟩, hx⟩ : ∃ x, atV A' t' = x := ⟨_, rfl⟩
          rw [hx] at q0 q1 q2 q3 q4
          simp only at q0 q1 q2 q3 q4
          by_cases hix : ix = (t' : Int)
          · subst hix
            obtain ⟨hl, e1, e2⟩ := pres_at (A := A') (m := t) hlt4 (by rw [ht', hx])
            rw [ht', hx] at e1
            rw [ht', HU.out.2.2] at e2
            have hnm : nn < m := by
              have := hl
              rw [HU.out.2.2, HM.out] at this
              exact this
            obtain ⟨b4, o4, rfl, hb4, hc4⟩ := HU.out.2.1.cells (by omega)
            have hcc := hc4 _ hl
            rw [e1] at hcc
            simp only [HU.out.2.2] at hcc
            obtain ⟨y0, y1, y2, y3, y4⟩ := hcc
            have n2 : (nn : Int) < (m : Int) := by omega
            have n3 : ¬ (m : Int) ≤ (nn : Int) := by omega
            have n4 : decide ((m : Int) ≤ (nn : Int)) = false := decide_eq_false n3
            have n5 : decide (m ≤ nn) = false := decide_eq_false (by omega)
            have HU2 := Lib.hid (And.intro HU.out.1 (And.intro HU.out.2.1 e2))
            clear hc4 e1 e2 hl hb4 HU hx hnm
            go_wp2_with fail
            go_quiet (fail)
            go_wp2_with fail
            go_roundw
            case rel => exact ⟨t', nn + 1, _, rfl, by omega, by go_num, by go_num, Lib.hid ⟨HU2.out.1.old ((KeptIn.refl _ _).drewN nq), HU2.out.2.1.old ((KeptIn.refl _ _).drewN nq), HU2.out.2.2⟩⟩
            case measure => simp only [intOf]; omega
          · have n2 : (ix == (t' : Int)) = false := by rw [beq_eq_false_iff_ne]; exact hix
            have hnot := pres_not (A := A') (m := t) (by rw [ht', hx]; exact hix)
            have HU2 := Lib.hid (And.intro HU.out.1 (And.intro HU.out.2.1 (show (pres A' t').length = nn by rw [← ht', hnot]; exact HU.out.2.2)))
            clear HU hx hnot
            go_wp2_with fail
            go_roundw
            case rel => exact ⟨t', nn, _, rfl, by omega, by go_num, rfl, HU2⟩
            case measure => simp only [intOf]; omega
        · obtain rfl : t = 16 := by omega
          have t1 : ¬ (t' : Int) ≤ 16 := by omega
          obtain rfl : m = nn := HM.out.symm.trans HU.out.2.2
          have HKE := Lib.hid (HK3.out.1.go HU.out.1.tr.kw)
          clear HU
          go_wp2_with fail
          go_ret
          exact ⟨rfl, HKE.out⟩

end Go.Proofs.Ytlnlgapjlekehaa
