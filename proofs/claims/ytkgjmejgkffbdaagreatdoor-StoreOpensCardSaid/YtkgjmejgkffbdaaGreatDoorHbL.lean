import Derived.Test.YtkgjmejgkffbdaaGreatDoorM9
/- Package head's Bytes. -/
set_option linter.unusedVariables false
namespace Go.Proofs.YtkgjmejgkffbdaaGreatDoor
open Go.RowKit

set_option maxHeartbeats 1000000 in
theorem hdBytesBad (h : Hd) (hg : goodH h = false) (w : World) :
    Calls Tryz.prog 35 #[headV h] w fun e w' => e = .returned (.tuple #[.string ⟨#[]⟩, .int .i64 1]) ∧ KeptIn (· < w.heap.size) w w' := by
  have CG := Lib.hid fun V => hdGood h V
  simp only [hg] at CG
  obtain ⟨g, r, s, f, c⟩ := h
  clear hg
  unfold headV at *
  simp only at CG ⊢
  go_enter Tryz.func35, Tryz.ntmps35
  go_wp2_with (go_at_call 63; refine (CG.out _).mono ?_)
  rintro e V1 ⟨rfl, k1⟩
  have K1 : Hid (KeptIn (· < w.heap.size) w V1) := Lib.hid (((KeptIn.refl _ w).alloc (fun _ h => h) _).trans (k1.mono fun k h => by simp; omega))
  clear k1
  go_wp2_with fail
  go_ret2
  exact ⟨rfl, K1.out⟩

set_option maxHeartbeats 2000000 in
set_option maxRecDepth 100000 in
theorem hdBytesOk (h : Hd) (hg : goodH h = true) (w : World) (hT : Tab w) :
    Calls Tryz.prog 35 #[headV h] w fun e w' => e = .returned (.tuple #[.string ⟨(bytesH h).toArray⟩, .int .i64 0]) ∧ KeptIn (· < w.heap.size) w w' := by
  have CG := Lib.hid fun V => hdGood h V
  simp only [hg] at CG
  obtain ⟨h1, h2, h3, h4, h5, h6, h7, h8, h9, h10⟩ : h.can := of_decide_eq_true hg
  obtain ⟨g, r, s, f, c⟩ := h
  simp only at h1 h2 h3 h4 h5 h6 h7 h8 h9 h10
  obtain ⟨r, rfl⟩ := Int.eq_ofNat_of_zero_le h3
  obtain ⟨s, rfl⟩ := Int.eq_ofNat_of_zero_le (show 0 ≤ s by omega)
  obtain ⟨f, rfl⟩ := Int.eq_ofNat_of_zero_le (show 0 ≤ f by omega)
  obtain ⟨c, rfl⟩ := Int.eq_ofNat_of_zero_le (show 0 ≤ c by omega)
  have HB := Lib.hid (show g ≤ 4294967295 ∧ r ≤ 511 ∧ s ≤ 256 ∧ f ≤ 256 ∧ c ≤ 8 by omega)
  have z1 : (0 : Int) ≤ (r : Int) := by omega
  have z2 : (0 : Int) ≤ (s : Int) := by omega
  have z3 : (0 : Int) ≤ (f : Int) := by omega
  have z4 : (0 : Int) ≤ (c : Int) := by omega
  obtain ⟨out, hout⟩ : ∃ out, bytesH ⟨g, r, s, f, c⟩ = out := ⟨_, rfl⟩
  rw [hout]
  have HO := Lib.hid hout; have HT := Lib.hid hT
  have hbx := BoxH.new w ⟨g, r, s, f, c⟩
  unfold headV at *
  simp only at CG ⊢
  have hk0 : KeptIn (· < w.heap.size) w (w.alloc (.cells #[.int .u64 g, .int .i64 r, .int .i64 s, .int .i64 f, .int .i64 c] 39)) := (KeptIn.refl _ w).alloc (fun _ h => h) _
  obtain ⟨W0, hW0⟩ : ∃ W0, w.alloc (.cells #[.int .u64 g, .int .i64 r, .int .i64 s, .int .i64 f, .int .i64 c] 39) = W0 := ⟨_, rfl⟩
  simp only [hW0] at hbx hk0
  have HBX := Lib.hid (And.intro hbx hk0)
  have HW0 := Lib.hid hW0
  clear hg h1 h3 h5 h7 h9 hT hout hbx hW0 hk0
  go_enter Tryz.func35, Tryz.ntmps35
  go_wp2_with (go_at_call 63; rw [HW0.out]; refine (CG.out W0).mono ?_; rintro e V1 ⟨rfl, k1⟩)
  have HB1 := Lib.hid (HBX.out.1.kept k1 HBX.out.1.lt)
  have K1 : Hid (KeptIn (· < w.heap.size) w V1) := Lib.hid (HBX.out.2.trans (k1.mono fun k h => Nat.lt_of_lt_of_le h HBX.out.2.size))
  obtain ⟨X, hXd⟩ : ∃ X : Nat → Prop, X = (· < V1.heap.size) := ⟨_, rfl⟩
  obtain ⟨b, hb⟩ : ∃ b, b = V1.heap.size := ⟨_, rfl⟩
  have hX : ∀ k, X k → k < V1.heap.size := fun k h => by rw [hXd] at h; exact h
  have hXx : X w.heap.size := by rw [hXd]; exact HB1.out.lt
  have h0 : Holds X b [] (V1.alloc (.cells #[.pointer none, .int .i64 0, .int .i64 0] 130)) := hb ▸ Holds.fresh X V1 hX
  have k0 : KeptIn X V1 (V1.alloc (.cells #[.pointer none, .int .i64 0, .int .i64 0] 130)) := (KeptIn.refl _ _).alloc hX _
  have HXX := Lib.hid (And.intro hXd (And.intro hX hXx))
  have HH := Lib.hid (And.intro h0 k0)
  clear k1 CG h0 k0 hXx hXd hX HBX
  go_wp2_with fail
  rw [← hb]
  have HBB := Lib.hid hb
  clear hb
  have HLB : Hid (∀ W, KeptIn X V1 W → W.cell? ⟨w.heap.size, 0, none⟩ = some (.int .u64 g) ∧ W.cell? ⟨w.heap.size, 1, none⟩ = some (.int .i64 r) ∧ W.cell? ⟨w.heap.size, 2, none⟩ = some (.int .i64 s) ∧ W.cell? ⟨w.heap.size, 3, none⟩ = some (.int .i64 f) ∧ W.cell? ⟨w.heap.size, 4, none⟩ = some (.int .i64 c)) := Lib.hid fun W k => by
    have h := HB1.out.kept k HXX.out.2.2
    exact ⟨h.c0, h.c1, h.c2, h.c3, h.c4⟩
  refine (hPut X b [] 84 1 _ HH.out.1 (HH.out.2.lt HXX.out.2.1) (by decide) (by decide)).mono ?_
  rintro e W1 ⟨rfl, h1, k1⟩
  replace h1 : Holds X b [84] W1 := h1
  replace k1 := HH.out.2.trans k1
  obtain ⟨c0, c1, c2, c3, c4⟩ := HLB.out W1 k1
  have HH1 := Lib.hid (And.intro h1 k1)
  clear h1 k1 HH
  go_wp2_with fail
  refine (hPut X b [84] c 1 _ HH1.out.1 (HH1.out.2.lt HXX.out.2.1) (by have := HB.out; omega) (by decide)).mono ?_
  rintro e W2 ⟨rfl, h1, k1⟩
  replace h1 : Holds X b [84, UInt8.ofNat c] W2 := h1
  replace k1 := HH1.out.2.trans k1
  clear c0 c1 c2 c3 c4
  obtain ⟨c0, c1, c2, c3, c4⟩ := HLB.out W2 k1
  have HH := Lib.hid (And.intro h1 k1)
  clear h1 k1 HH1
  go_wp2_with fail
  refine (hPut X b [84, UInt8.ofNat c] s 2 _ HH.out.1 (HH.out.2.lt HXX.out.2.1) (by have := HB.out; omega) (by simp)).mono ?_
  rintro e W3 ⟨rfl, h1, k1⟩
  replace h1 : Holds X b ([84, UInt8.ofNat c] ++ bytesLE s 2) W3 := h1
  replace k1 := HH.out.2.trans k1
  clear c0 c1 c2 c3 c4
  obtain ⟨c0, c1, c2, c3, c4⟩ := HLB.out W3 k1
  have HH1 := Lib.hid (And.intro h1 k1)
  clear h1 k1 HH
  go_wp2_with fail
  refine (hPut X b ([84, UInt8.ofNat c] ++ bytesLE s 2) f 2 _ HH1.out.1 (HH1.out.2.lt HXX.out.2.1) (by have := HB.out; omega) (by simp [bytesLE_length])).mono ?_
  rintro e W4 ⟨rfl, h1, k1⟩
  replace h1 : Holds X b ([84, UInt8.ofNat c] ++ bytesLE s 2 ++ bytesLE f 2) W4 := h1
  replace k1 := HH1.out.2.trans k1
  clear c0 c1 c2 c3 c4
  obtain ⟨c0, c1, c2, c3, c4⟩ := HLB.out W4 k1
  have HH := Lib.hid (And.intro h1 k1)
  clear h1 k1 HH1
  go_wp2_with fail
  refine (hPut X b ([84, UInt8.ofNat c] ++ bytesLE s 2 ++ bytesLE f 2) g 4 _ HH.out.1 (HH.out.2.lt HXX.out.2.1) (by have := HB.out; omega) (by simp [bytesLE_length])).mono ?_
  rintro e W5 ⟨rfl, h1, k1⟩
  replace h1 : Holds X b ([84, UInt8.ofNat c] ++ bytesLE s 2 ++ bytesLE f 2 ++ bytesLE g 4) W5 := h1
  replace k1 := HH.out.2.trans k1
  clear c0 c1 c2 c3 c4
  obtain ⟨c0, c1, c2, c3, c4⟩ := HLB.out W5 k1
  have HH1 := Lib.hid (And.intro h1 k1)
  clear h1 k1 HH
  go_wp2_with fail
  refine (hPut X b ([84, UInt8.ofNat c] ++ bytesLE s 2 ++ bytesLE f 2 ++ bytesLE g 4) r 2 _ HH1.out.1 (HH1.out.2.lt HXX.out.2.1) (by have := HB.out; omega) (by simp [bytesLE_length])).mono ?_
  rintro e W6 ⟨rfl, h1, k1⟩
  replace h1 : Holds X b ([84, UInt8.ofNat c] ++ bytesLE s 2 ++ bytesLE f 2 ++ bytesLE g 4 ++ bytesLE r 2) W6 := h1
  have ht : [84, UInt8.ofNat c] ++ bytesLE s 2 ++ bytesLE f 2 ++ bytesLE g 4 ++ bytesLE r 2 = textH ⟨g, r, s, f, c⟩ := by simp [textH]
  rw [ht] at h1
  replace k1 := HH1.out.2.trans k1
  clear c0 c1 c2 c3 c4
  have HH := Lib.hid (And.intro h1 k1)
  clear h1 k1 HH1 ht
  go_wp2_with fail
  refine (hString X b _ W6 HH.out.1 (HH.out.2.lt HXX.out.2.1) (by rw [textH_length]; decide)).mono ?_
  rintro e W7 ⟨rfl, h6, k6⟩
  have H6 : Hid (KeptIn X V1 W7) := Lib.hid (HH.out.2.trans k6)
  have hT6 : Tab W7 := (HT.out.kept K1.out HT.out.lt).kept H6.out (by rw [HXX.out.1]; exact Nat.lt_of_lt_of_le HT.out.lt K1.out.size)
  have HT6 := Lib.hid hT6
  clear h6 k6 HH hT6
  go_wp2_with fail
  refine (castleSeal (textH ⟨g, r, s, f, c⟩) W7 HT6.out (by rw [textH_length]; decide)).mono ?_
  rintro e W8 ⟨rfl, k7⟩
  have H7 : Hid (KeptIn (· < w.heap.size) w W8) := Lib.hid (K1.out.trans ((H6.out.mono fun k hk => by rw [HXX.out.1]; exact Nat.lt_of_lt_of_le hk K1.out.size).trans (k7.mono fun k hk => Nat.lt_of_lt_of_le hk (Nat.le_trans K1.out.size H6.out.size))))
  clear k7
  rw [show sealOf (textH ⟨g, r, s, f, c⟩) = out from HO.out]
  go_wp2
  go_ret2
  exact ⟨rfl, H7.out⟩

end Go.Proofs.YtkgjmejgkffbdaaGreatDoor
