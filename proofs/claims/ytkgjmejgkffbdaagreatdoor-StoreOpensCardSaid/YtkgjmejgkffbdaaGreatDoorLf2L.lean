import Derived.Test.YtkgjmejgkffbdaaGreatDoorM10
import Derived.Test.YtkgjmejgkffbdaaGreatDoorM9
/- Package leaf's Bytes. -/
set_option linter.unusedVariables false
namespace Go.Proofs.YtkgjmejgkffbdaaGreatDoor
open Go.RowKit

theorem lfBytesBad (lv : Int) (a : Option Addr) (cap : Nat) (ps : Pairs) (w : World) (h : IsPs w a ps) (hg : goodN lv ps = false) :
    Calls Tryz.prog 41 #[leafV lv a ps.length cap] w fun e w' => e = .returned (.tuple #[.string ⟨#[]⟩, .int .i64 1]) ∧ KeptIn (· < w.heap.size) w w' := by
  have CG := Lib.hid fun V (hk : KeptIn (· < w.heap.size) w V) => lfGood lv a cap ps V (h.old hk)
  simp only [hg] at CG
  unfold leafV at *
  generalize ps.length = n at *
  clear h hg
  go_enter Tryz.func41, Tryz.ntmps41
  go_wp2_with (go_at_call 74; refine (CG.out _ ((KeptIn.refl _ w).alloc (fun _ h => h) _)).mono ?_)
  rintro e V1 ⟨rfl, k1⟩
  have K1 : Hid (KeptIn (· < w.heap.size) w V1) := Lib.hid (((KeptIn.refl _ w).alloc (fun _ h => h) _).trans (k1.mono fun k h => by simp; omega))
  clear k1
  go_wp2_with fail
  go_ret2
  exact ⟨rfl, K1.out⟩

set_option maxHeartbeats 1000000 in
set_option maxRecDepth 100000 in
theorem lfBytesOk (lv : Int) (a : Option Addr) (cap : Nat) (ps : Pairs) (w : World) (hT : Tab w) (h : IsPs w a ps) (hg : goodN lv ps = true) :
    Calls Tryz.prog 41 #[leafV lv a ps.length cap] w fun e w' => e = .returned (.tuple #[.string ⟨(bytesN lv ps).toArray⟩, .int .i64 0]) ∧ KeptIn (· < w.heap.size) w w' := by
  obtain ⟨h0, h7, h15⟩ := good_parts hg
  obtain ⟨m, rfl⟩ := Int.eq_ofNat_of_zero_le h0
  have CG := Lib.hid fun V (hk : KeptIn (· < w.heap.size) w V) => lfGood (m : Int) a cap ps V (h.old hk)
  simp only [hg] at CG
  obtain ⟨n, hn⟩ : ∃ n, ps.length = n := ⟨_, rfl⟩
  have m0 : (0 : Int) ≤ (m : Int) := h0
  have m1 : (m : Int) ≤ 7 := h7
  have n1 : (n : Int) ≤ 15 := by omega
  have HM := Lib.hid (show m ≤ 7 ∧ n ≤ 15 by omega)
  obtain ⟨out, hout⟩ : ∃ out, bytesN (m : Int) ps = out := ⟨_, rfl⟩
  rw [hout]
  unfold leafV at *
  rw [hn] at CG ⊢
  have H := Lib.hid h; have HN := Lib.hid hn; have HO := Lib.hid hout; have HT := Lib.hid hT
  clear h hn hg h15 h0 h7 hT hout
  go_enter Tryz.func41, Tryz.ntmps41
  go_wp2_with (go_at_call 74; refine (CG.out _ ((KeptIn.refl _ w).alloc (fun _ h => h) _)).mono ?_)
  rintro e V1 ⟨rfl, k1⟩
  have HB1 : Hid (BoxL w.heap.size m a n cap V1) := Lib.hid ((BoxL.new w m a n cap).kept k1 (by simp))
  have K1 : Hid (KeptIn (· < w.heap.size) w V1) := Lib.hid (((KeptIn.refl _ w).alloc (fun _ h => h) _).trans (k1.mono fun k h => by simp; omega))
  obtain ⟨X, hXd⟩ : ∃ X : Nat → Prop, X = (· < V1.heap.size) := ⟨_, rfl⟩
  obtain ⟨b, hb⟩ : ∃ b, b = V1.heap.size := ⟨_, rfl⟩
  have hX : ∀ k, X k → k < V1.heap.size := fun k h => by rw [hXd] at h; exact h
  have hXx : X w.heap.size := by rw [hXd]; exact HB1.out.lt
  have h0 : Holds X b [] (V1.alloc (.cells #[.pointer none, .int .i64 0, .int .i64 0] 130)) := hb ▸ Holds.fresh X V1 hX
  have k0 : KeptIn X V1 (V1.alloc (.cells #[.pointer none, .int .i64 0, .int .i64 0] 130)) := (KeptIn.refl _ _).alloc hX _
  have HXX := Lib.hid (And.intro hXd (And.intro hX hXx))
  have HH := Lib.hid (And.intro h0 k0)
  clear k1 CG h0 k0 hXx hXd hX
  go_wp2_with fail
  rw [← hb]
  have HBB := Lib.hid hb
  clear hb
  refine (hPut X b [] 76 1 _ HH.out.1 (HH.out.2.lt HXX.out.2.1) (by decide) (by decide)).mono ?_
  rintro e W1 ⟨rfl, h1, k1⟩
  replace h1 : Holds X b [76] W1 := h1
  replace k1 := HH.out.2.trans k1
  have c0 := (HB1.out.kept k1 HXX.out.2.2).c0
  have HH1 := Lib.hid (And.intro h1 k1)
  clear h1 k1 HH
  go_wp2_with fail
  refine (hPut X b [76] m 1 _ HH1.out.1 (HH1.out.2.lt HXX.out.2.1) (by have := HM.out; omega) (by decide)).mono ?_
  rintro e W2 ⟨rfl, h1, k1⟩
  replace h1 : Holds X b [76, UInt8.ofNat m] W2 := h1
  replace k1 := HH1.out.2.trans k1
  have c1 := (HB1.out.kept k1 HXX.out.2.2).c1
  have HH := Lib.hid (And.intro h1 k1)
  clear h1 k1 HH1 c0
  go_wp2_with fail
  refine (hPut X b [76, UInt8.ofNat m] n 1 _ HH.out.1 (HH.out.2.lt HXX.out.2.1) (by have := HM.out; omega) (by simp)).mono ?_
  rintro e W3 ⟨rfl, h1, k1⟩
  replace h1 : Holds X b [76, UInt8.ofNat m, UInt8.ofNat n] W3 := h1
  replace k1 := HH.out.2.trans k1
  have HH1 := Lib.hid (And.intro h1 k1)
  clear h1 k1 HH c1
  go_wp2_with fail
  refine (hPut X b [76, UInt8.ofNat m, UInt8.ofNat n] 0 1 _ HH1.out.1 (HH1.out.2.lt HXX.out.2.1) (by decide) (by simp)).mono ?_
  rintro e W4 ⟨rfl, h1, k1⟩
  replace h1 : Holds X b (headB m n ++ pairsB (ps.take 0)) W4 := h1
  replace k1 := HH1.out.2.trans k1
  have c1 := (HB1.out.kept k1 HXX.out.2.2).c1
  have HH : Hid (Holds X b (headB m n ++ pairsB (ps.take 0)) W4 ∧ KeptIn X V1 W4) := Lib.hid (And.intro h1 k1)
  clear h1 k1 HH1
  go_wp2_with fail
  go_loopw [24] (fun c wr => ∃ (j : Nat) (W : World), W = wr ∧ j ≤ n ∧ c = .int .i64 j ∧ Hid (Holds X b (headB m n ++ pairsB (ps.take j)) W ∧ KeptIn X V1 W)) (fun c _ => n - (RowKit.intOf c).toNat)
  case atStart => exact ⟨0, _, rfl, Nat.zero_le _, rfl, HH⟩
  case round =>
    obtain ⟨j, W, rfl, hj, rfl, HJ⟩ := hrel
    clear HH c1
    by_cases hlt : j < n
    · have d0 : (0 : Int) ≤ (j : Int) := by omega
      have d1 : (j : Int) < (n : Int) := by omega
      have hjl : j < ps.length := by rw [HN.out]; exact hlt
      obtain ⟨g, off, rfl, hgb, hc⟩ := ((H.out.old K1.out).kept (HJ.out.2) (fun k hk => by rw [HXX.out.1]; exact hk)).cells (by omega)
      obtain ⟨e1, e2⟩ := hc j hjl
      obtain ⟨f1, f2⟩ := H.out.fits.at hjl
      have hst := pairsB_take ps j hjl
      obtain ⟨kx, hkx⟩ : ∃ kx, keyAt ps j = kx := ⟨_, rfl⟩
      obtain ⟨vx, hvx⟩ : ∃ vx, valAt ps j = vx := ⟨_, rfl⟩
      rw [hkx] at e1 f1 hst
      rw [hvx] at e2 f2 hst
      have HST : Hid (headB m n ++ pairsB (ps.take j) ++ bytesLE kx 8 ++ bytesLE vx 8 = headB m n ++ pairsB (ps.take (j + 1))) := Lib.hid (by rw [hst]; simp)
      have HF := Lib.hid (And.intro f1 f2)
      have hlj : (headB m n ++ pairsB (ps.take j)).length ≤ 300 := by
        rw [List.length_append, pairsB_length, List.length_take]
        show 4 + _ ≤ _
        have := HM.out
        omega
      have HLJ := Lib.hid hlj
      clear hc hgb hst hkx hvx hjl hlj
      obtain ⟨r, hr⟩ : ∃ r, W.heap.size = r := ⟨_, rfl⟩
      obtain ⟨W5, hW5⟩ : ∃ W5, W.alloc (.cells #[.int .u64 kx, .int .u64 vx] 100) = W5 := ⟨_, rfl⟩
      have k5 : KeptIn X V1 W5 := by rw [← hW5]; exact HJ.out.2.alloc HXX.out.2.1 _
      have pb : W5.heap[r]? = some (.cells #[.int .u64 kx, .int .u64 vx] 100 (0, 0)) := by rw [← hW5, ← hr]; exact heap_alloc_new W _
      have q5 : Holds (also X r) b (headB m n ++ pairsB (ps.take j)) W5 := by
        rw [← hW5]
        exact (HJ.out.1.beyond r (by omega)).old ((KeptIn.refl _ _).alloc (fun _ h => h) _)
      have hlt5 : r < W5.heap.size := (Array.getElem?_eq_some_iff.1 pb).1
      have H5 := Lib.hid (And.intro q5 (And.intro k5 (And.intro pb hlt5)))
      have HW5 := Lib.hid (And.intro hr hW5)
      clear k5 pb q5 hlt5 hr hW5 HJ
      go_wp2_with fail
      rw [HW5.out.2, HW5.out.1]
      refine (hPut (also X r) b _ kx 8 W5 H5.out.1 (also_lt (H5.out.2.1.lt HXX.out.2.1) H5.out.2.2.2) HF.out.1 (by have := HLJ.out; omega)).mono ?_
      rintro e W6 ⟨rfl, h6, k6⟩
      replace h6 : Holds (also X r) b (headB m n ++ pairsB (ps.take j) ++ bytesLE kx 8) W6 := h6
      have cv : W6.cell? ⟨r, 1, none⟩ = some (.int .u64 vx) := by simp [World.cell?, (k6.block r (.inr rfl)).trans H5.out.2.2.1]
      have H6 : Hid (Holds (also X r) b (headB m n ++ pairsB (ps.take j) ++ bytesLE kx 8) W6 ∧ KeptIn X V1 W6 ∧ r < W6.heap.size) := Lib.hid ⟨h6, H5.out.2.1.trans (k6.mono fun _ h => .inl h), Nat.lt_of_lt_of_le H5.out.2.2.2 k6.size⟩
      clear h6 k6 H5
      go_wp2_with fail
      refine (hPut (also X r) b _ vx 8 W6 H6.out.1 (also_lt (H6.out.2.1.lt HXX.out.2.1) H6.out.2.2) HF.out.2 (by have := HLJ.out; rw [List.length_append, bytesLE_length]; omega)).mono ?_
      rintro e W7 ⟨rfl, h7, k7⟩
      replace h7 : Holds (also X r) b (headB m n ++ pairsB (ps.take j) ++ bytesLE kx 8 ++ bytesLE vx 8) W7 := h7
      rw [HST.out] at h7
      have H7 : Hid (Holds X b (headB m n ++ pairsB (ps.take (j + 1))) W7 ∧ KeptIn X V1 W7) := Lib.hid ⟨h7.less fun _ h => .inl h, H6.out.2.1.trans (k7.mono fun _ h => .inl h)⟩
      clear h7 k7 H6 cv
      go_wp2_with fail
      go_roundw
      case rel => exact ⟨j + 1, _, rfl, by omega, by go_num, H7⟩
      case measure => simp [RowKit.intOf]; omega
    · obtain rfl : j = n := by omega
      have e0 : headB m j ++ pairsB (ps.take j) ++ List.replicate (252 - (headB m j ++ pairsB (ps.take j)).length) 0 = textN m ps := by
        rw [List.take_of_length_le (by rw [HN.out]; exact Nat.le_refl _), textN, HN.out]
        congr 2
        rw [List.length_append, pairsB_length, HN.out]
        show 252 - (4 + _) = _
        omega
      have hlj : (headB m j ++ pairsB (ps.take j)).length ≤ 300 := by
        rw [List.length_append, pairsB_length, List.length_take]
        show 4 + _ ≤ _
        have := HM.out
        omega
      have E0 := Lib.hid (And.intro e0 hlj)
      clear e0 hlj
      go_wp2_with fail
      refine (hFill X b _ 252 W HJ.out.1 (by have := E0.out.2; omega) (by decide)).mono ?_
      rintro e W5 ⟨rfl, h5, k5⟩
      replace h5 : Holds X b (headB m j ++ pairsB (ps.take j) ++ List.replicate (252 - (headB m j ++ pairsB (ps.take j)).length) 0) W5 := h5
      rw [E0.out.1] at h5
      have H5 : Hid (Holds X b (textN m ps) W5 ∧ KeptIn X V1 W5) := Lib.hid ⟨h5, HJ.out.2.trans k5⟩
      clear h5 k5 HJ
      have htl : (textN m ps).length = 252 := textN_length _ _ (by rw [HN.out]; exact HM.out.2)
      have HTL := Lib.hid htl
      clear htl
      go_wp2_with fail
      refine (hString X b _ W5 H5.out.1 (H5.out.2.lt HXX.out.2.1) (by rw [HTL.out]; decide)).mono ?_
      rintro e W6 ⟨rfl, h6, k6⟩
      have H6 : Hid (KeptIn X V1 W6) := Lib.hid (H5.out.2.trans k6)
      have hT6 : Tab W6 := (HT.out.kept K1.out HT.out.lt).kept H6.out (by rw [HXX.out.1]; exact Nat.lt_of_lt_of_le HT.out.lt K1.out.size)
      have HT6 := Lib.hid hT6
      clear h6 k6 H5 hT6
      go_wp2_with fail
      refine (castleSeal (textN m ps) W6 HT6.out (by rw [HTL.out]; decide)).mono ?_
      rintro e W7 ⟨rfl, k7⟩
      have H7 : Hid (KeptIn (· < w.heap.size) w W7) := Lib.hid (K1.out.trans ((H6.out.mono fun k hk => by rw [HXX.out.1]; exact Nat.lt_of_lt_of_le hk K1.out.size).trans (k7.mono fun k hk => Nat.lt_of_lt_of_le hk (Nat.le_trans K1.out.size H6.out.size))))
      clear k7
      rw [show sealOf (textN (m : Int) ps) = out from HO.out]
      go_wp2
      go_ret2
      exact ⟨rfl, H7.out⟩

end Go.Proofs.YtkgjmejgkffbdaaGreatDoor
