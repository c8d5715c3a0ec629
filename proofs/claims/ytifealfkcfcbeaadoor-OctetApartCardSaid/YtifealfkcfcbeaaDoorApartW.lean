/- OctetApart of layer 1: the walk: it returns true for every input and writes nothing that was there. -/
import Derived.Test.YtifealfkcfcbeaaDoorPair
import Derived.Test.YtifealfkcfcbeaaDoorArgs
set_option linter.unusedVariables false
namespace Go.Proofs.YtifealfkcfcbeaaDoor
open Go.RowKit

set_option maxHeartbeats 1000000 in
set_option maxRecDepth 100000 in
theorem apartW (a0 : Option Addr) (len0 cap0 : Nat) (z0 : List Int) (a1 : Option Addr) (len1 cap1 : Nat) (z1 : List Int) (size : Int) (w : World) (w0 : IsRow .u64 w a0 len0 cap0 z0) (w1 : IsRow .u64 w a1 len1 cap1 z1) (w2 : (Lit.int .i64 size).wf = true) :
    Calls Tryd.prog 6 #[.slice a0 len0 cap0, .slice a1 len1 cap1, .int .i64 size] w fun e w' => e = .returned (.bool true) ∧ KeptIn (· < w.heap.size) w w' := by
  have l0 := w0.len_le; have l1 := w1.len_le
  unfold maxLen at l0 l1
  have b0 : (len0 : Int) ≤ 9223372036854775807 := by omega
  have b1 : (len1 : Int) ≤ 9223372036854775807 := by omega
  have W0 := Lib.hid w0; have W1 := Lib.hid w1
  have hsz := szOf_walk size
  have hszw := szOf_walk64 size
  have hle := szOf_le size
  have HSN := Lib.hid (szOf_near size)
  generalize szOf size = kk at *
  have q0 : (1 : Int) ≤ (kk : Int) := by omega
  have q1 : (kk : Int) ≤ 8 := by omega
  clear w0 w1 l0 l1 w2
  obtain ⟨n, hn, n0, n1, n2⟩ : ∃ n : Nat, min (min (len0 : Int) (len1 : Int)) 40 = (n : Int) ∧ n ≤ len0 ∧ n ≤ len1 ∧ n ≤ 40 := ⟨min (min len0 len1) 40, by omega, by omega, by omega, by omega⟩
  have n3 : (n : Int) ≤ 40 := by omega
  have n4 : (0 : Int) ≤ (n : Int) := by omega
  go_enter Tryd.func6, Tryd.ntmps6
  go_wp2_with fail
  refine (awake1 w).mono ?_
  rintro e w3 ⟨rfl, k3⟩
  go_wp2_with fail
  rw [hszw]
  clear hn hsz hszw
  have hX3 : ∀ k, k < w.heap.size → k < w3.heap.size := fun k h => Nat.lt_of_lt_of_le h k3.size
  have h0 := Pair.fresh (· < w.heap.size) w3 hX3
  have k4 : KeptIn (· < w.heap.size) w ((w3.alloc (.cells #[.pointer none, .int .i64 0, .int .i64 0] 27)).alloc (.cells #[.pointer none, .int .i64 0, .int .i64 0] 27)) := (k3.alloc (fun _ h => h) _).alloc (fun _ h => h) _
  have H0 : Hid (Pair (· < w.heap.size) w3.heap.size (w3.heap.size + 1) (cat z0 kk 0) (cat z1 kk 0) ((w3.alloc (.cells #[.pointer none, .int .i64 0, .int .i64 0] 27)).alloc (.cells #[.pointer none, .int .i64 0, .int .i64 0] 27)) ∧
    KeptIn (· < w.heap.size) w ((w3.alloc (.cells #[.pointer none, .int .i64 0, .int .i64 0] 27)).alloc (.cells #[.pointer none, .int .i64 0, .int .i64 0] 27))) := Lib.hid ⟨h0, k4⟩
  clear h0 k4 hX3 k3
  generalize (w3.alloc (.cells #[.pointer none, .int .i64 0, .int .i64 0] 27)).alloc (.cells #[.pointer none, .int .i64 0, .int .i64 0] 27) = w4 at *
  generalize w3.heap.size + 1 = y at *
  generalize w3.heap.size = x at *
  go_loopw [11, 12] (fun sm c W => ∃ j : Nat, j ≤ n ∧ c = .int .i64 j ∧ sm = .bool (alike z0 z1 kk j) ∧ Hid (Pair (· < w.heap.size) x y (cat z0 kk j) (cat z1 kk j) W ∧ KeptIn (· < w.heap.size) w W)) (fun _ c _ => n - (intOf c).toNat)
  case atStart => exact ⟨0, Nat.zero_le _, rfl, rfl, H0⟩
  case round =>
    obtain ⟨j, hj, rfl, rfl, HJ⟩ := hrel
    clear H0
    by_cases hlt : j < n
    · obtain ⟨ba, oa, rfl, hba, hca⟩ := W0.out.elem (by omega)
      obtain ⟨bb, ob, rfl, hbb, hcb⟩ := W1.out.elem (by omega)
      obtain ⟨ca, fa⟩ := hca j (by omega)
      obtain ⟨cb, fb⟩ := hcb j (by omega)
      obtain ⟨za, hza, hzl⟩ : ∃ za : Nat, z0.getD j 0 = (za : Int) ∧ za < 18446744073709551616 := by
        have := bounds_u64 fa
        exact ⟨(z0.getD j 0).toNat, by omega, by omega⟩
      obtain ⟨ya, hya, hyl⟩ : ∃ ya : Nat, z1.getD j 0 = (ya : Int) ∧ ya < 18446744073709551616 := by
        have := bounds_u64 fb
        exact ⟨(z1.getD j 0).toNat, by omega, by omega⟩
      rw [hza] at ca
      rw [hya] at cb
      have hstep := alike_step z0 z1 kk j za ya (by rw [hza]; rfl) (by rw [hya]; rfl)
      have hcat0 : cat z0 kk (j + 1) = cat z0 kk j ++ bytesLE za kk := by rw [cat, hza]; rfl
      have hcat1 : cat z1 kk (j + 1) = cat z1 kk j ++ bytesLE ya kk := by rw [cat, hya]; rfl
      have hl0 : (cat z0 kk j).length + 8 ≤ 2147483647 := by rw [cat_length]; have := Nat.mul_le_mul (show j ≤ 40 by omega) hle.2; omega
      have hl1 : (cat z1 kk j).length + 8 ≤ 2147483647 := by rw [cat_length]; have := Nat.mul_le_mul (show j ≤ 40 by omega) hle.2; omega
      have HST := Lib.hid hstep; have HC0 := Lib.hid hcat0; have HC1 := Lib.hid hcat1; have HL0 := Lib.hid hl0; have HL1 := Lib.hid hl1
      have CA := Lib.hid ca; have CB := Lib.hid cb
      have ca0 := (World.cell?_of_block (a := ⟨ba, oa + j, none⟩) (HJ.out.2.block ba hba)).trans ca
      have i0 : (j : Int) < (len0 : Int) := by omega
      have i1 : (j : Int) < (len1 : Int) := by omega
      have i2 : (0 : Int) ≤ (j : Int) := by omega
      clear hca hcb fa fb hza hya hstep hcat0 hcat1 hl0 hl1 ca cb
      go_wp2_with fail
      refine (pairPut (· < w.heap.size) x y _ _ za (kk : Int) _ HJ.out.1 (HJ.out.2.lt (fun _ h => h)) hzl HL0.out).mono ?_
      rintro e w5 ⟨rfl, h5, k5⟩
      rw [HSN.out] at h5
      replace k5 := HJ.out.2.trans k5
      have cb5 := (World.cell?_of_block (a := ⟨bb, ob + j, none⟩) (k5.block bb hbb)).trans CB.out
      have H5 := Lib.hid h5; have K5 := Lib.hid k5
      clear h5 k5 ca0 HJ
      go_wp2_with fail
      refine (pairPut (· < w.heap.size) y x _ _ ya (kk : Int) _ H5.out.swap (K5.out.lt (fun _ h => h)) hyl HL1.out).mono ?_
      rintro e w6 ⟨rfl, h6, k6⟩
      rw [HSN.out, ← HC0.out, ← HC1.out] at h6
      replace k6 := K5.out.trans k6
      have ca6 := (World.cell?_of_block (a := ⟨ba, oa + j, none⟩) (k6.block ba hba)).trans CA.out
      have cb6 := (World.cell?_of_block (a := ⟨bb, ob + j, none⟩) (k6.block bb hbb)).trans CB.out
      have H6 : Hid (Pair (· < w.heap.size) x y (cat z0 kk (j + 1)) (cat z1 kk (j + 1)) w6 ∧ KeptIn (· < w.heap.size) w w6) := Lib.hid ⟨h6.swap, k6⟩
      clear h6 k6 cb5 H5 K5 CA CB HC0 HC1 HL0 HL1
      by_cases h8 : (kk : Int) < 8
      · obtain ⟨P, hPe, hPn⟩ : ∃ P : Nat, P = 2 ^ (8 * kk) ∧ 0 < P := ⟨_, rfl, Nat.two_pow_pos _⟩
        have hP : IntKind.u64.wrap ((2 : Int) ^ (8 * kk)) = (P : Int) := by
          have h1 := pow_le kk (by omega)
          rw [IntKind.wrap_u64, show ((2 : Int) ^ (8 * kk)) = (P : Int) from by rw [hPe]; simp]
          exact Int.emod_eq_of_lt (by omega) (by omega)
        have hst := HST.out
        rw [← hPe] at hst
        have HS2 := Lib.hid hst
        clear hst hPe HST
        have p0 : (0 : Int) < (P : Int) := by omega
        have p1 : ((P : Int) == 0) = false := by simp; omega
        cases hsm : alike z0 z1 kk j
        · have hnew : alike z0 z1 kk (j + 1) = false := by rw [HS2.out, hsm]; rfl
          have HN := Lib.hid hnew; clear hnew
          go_wp2_with fail
          go_roundw
          case rel => exact ⟨j + 1, by omega, by go_num, by rw [HN.out], H6⟩
          case measure => simp [intOf]; omega
        · have hnew : alike z0 z1 kk (j + 1) = (((za : Int) % (P : Int)) == ((ya : Int) % (P : Int))) := by
            rw [HS2.out, hsm, Bool.true_and, ← Int.natCast_emod, ← Int.natCast_emod, Bool.eq_iff_iff, decide_eq_true_iff, beq_iff_eq]
            omega
          have HN := Lib.hid hnew; clear hnew
          go_wp2_with fail
          go_roundw
          case rel => exact ⟨j + 1, by omega, by go_num, by rw [HN.out], H6⟩
          case measure => simp [intOf]; omega
      · have hst := HST.out
        rw [show 8 * kk = 64 from by omega, show (2 : Nat) ^ 64 = 18446744073709551616 from rfl, Nat.mod_eq_of_lt hzl, Nat.mod_eq_of_lt hyl] at hst
        have HS2 := Lib.hid hst
        clear hst HST
        cases hsm : alike z0 z1 kk j
        · have hnew : alike z0 z1 kk (j + 1) = false := by rw [HS2.out, hsm]; rfl
          have HN := Lib.hid hnew; clear hnew
          go_wp2_with fail
          go_roundw
          case rel => exact ⟨j + 1, by omega, by go_num, by rw [HN.out], H6⟩
          case measure => simp [intOf]; omega
        · have hnew : alike z0 z1 kk (j + 1) = ((za : Int) == (ya : Int)) := by
            rw [HS2.out, hsm, Bool.true_and, Bool.eq_iff_iff, decide_eq_true_iff, beq_iff_eq]
            omega
          have HN := Lib.hid hnew; clear hnew
          go_wp2_with fail
          go_roundw
          case rel => exact ⟨j + 1, by omega, by go_num, by rw [HN.out], H6⟩
          case measure => simp [intOf]; omega
    · obtain rfl : j = n := by omega
      have hl0 : (cat z0 kk j).length ≤ 2147483647 := by rw [cat_length]; have := Nat.mul_le_mul (show j ≤ 40 by omega) hle.2; omega
      have hl1 : (cat z1 kk j).length ≤ 2147483647 := by rw [cat_length]; have := Nat.mul_le_mul (show j ≤ 40 by omega) hle.2; omega
      have HL0 := Lib.hid hl0; have HL1 := Lib.hid hl1
      have HA : Hid (alike z0 z1 kk j = decide (cat z0 kk j = cat z1 kk j)) := Lib.hid rfl
      have HC0 := Lib.hid (cat_length z0 kk j); have HC1 := Lib.hid (cat_length z1 kk j)
      generalize alike z0 z1 kk j = sm at *
      generalize cat z0 kk j = c0 at *
      generalize cat z1 kk j = c1 at *
      obtain ⟨m, hm, hm2⟩ : ∃ m : Nat, j * kk = m ∧ m ≤ 320 := ⟨_, rfl, by have := Nat.mul_le_mul (show j ≤ 40 by omega) hle.2; omega⟩
      have hmul : (j : Int) * (kk : Int) = (m : Int) := by rw [← hm]; simp
      have m0 : (0 : Int) ≤ (m : Int) := by omega
      have m1 : (m : Int) ≤ 320 := by omega
      have HM := Lib.hid hm
      clear hl0 hl1 hm
      go_wp2_with fail
      refine (pairString (· < w.heap.size) x y _ _ _ HJ.out.1 (HJ.out.2.lt (fun _ h => h)) HL0.out).mono ?_
      rintro e w5 ⟨rfl, h5, k5⟩
      have H5 := Lib.hid h5; have K5 := Lib.hid (HJ.out.2.trans k5)
      clear h5 k5 HJ
      go_wp2_with fail
      refine (pairString (· < w.heap.size) y x _ _ _ H5.out.swap (K5.out.lt (fun _ h => h)) HL1.out).mono ?_
      rintro e w6 ⟨rfl, h6, k6⟩
      have H6 := Lib.hid h6.swap; have K6 := Lib.hid (K5.out.trans k6)
      clear h6 k6 H5 K5
      cases sm
      · have hne : ¬ c0 = c1 := of_decide_eq_false HA.out.symm
        have hnb : (c0 == c1) = false := by rw [beq_eq_false_iff_ne]; exact hne
        go_wp2_with fail
        refine (pairLen (· < w.heap.size) x y _ _ _ H6.out (K6.out.lt (fun _ h => h)) HL0.out).mono ?_
        rintro e w7 ⟨he, h7, k7⟩
        rw [HC0.out, HM.out] at he
        subst he
        have H7 := Lib.hid h7; have K7 := Lib.hid (K6.out.trans k7)
        clear h7 k7 H6 K6
        go_wp2_with fail
        refine (pairLen (· < w.heap.size) y x _ _ _ H7.out.swap (K7.out.lt (fun _ h => h)) HL1.out).mono ?_
        rintro e w8 ⟨he, h8, k8⟩
        rw [HC1.out, HM.out] at he
        subst he
        have K8 := Lib.hid (K7.out.trans k8)
        clear h8 k8 H7 K7
        go_wp2_with fail
        go_ret
        exact ⟨rfl, K8.out⟩
      · obtain rfl : c0 = c1 := of_decide_eq_true HA.out.symm
        go_wp2_with fail
        refine (pairLen (· < w.heap.size) x y _ _ _ H6.out (K6.out.lt (fun _ h => h)) HL0.out).mono ?_
        rintro e w7 ⟨he, h7, k7⟩
        rw [HC0.out, HM.out] at he
        subst he
        have H7 := Lib.hid h7; have K7 := Lib.hid (K6.out.trans k7)
        clear h7 k7 H6 K6
        go_wp2_with fail
        refine (pairLen (· < w.heap.size) y x _ _ _ H7.out.swap (K7.out.lt (fun _ h => h)) HL1.out).mono ?_
        rintro e w8 ⟨he, h8, k8⟩
        rw [HC1.out, HM.out] at he
        subst he
        have K8 := Lib.hid (K7.out.trans k8)
        clear h8 k8 H7 K7
        go_wp2_with fail
        go_ret
        exact ⟨rfl, K8.out⟩

end Go.Proofs.YtifealfkcfcbeaaDoor
