import Derived.Test.YtkgjmejgkffbdaaGreatDoorRef6bL
import Derived.Test.YtkgjmejgkffbdaaGreatDoorM9
import Derived.Deep.CutRange
/- The reference of layer 6 (tierceref06): Read, Newest. -/
set_option linter.unusedVariables false
namespace Go.Proofs.YtkgjmejgkffbdaaGreatDoor
open Go.RowKit

theorem sub_str (s : List UInt8) (i j : Nat) (hi : i ≤ j) (hj : j ≤ s.length) : (⟨s.toArray⟩ : ByteArray).extract i j = ⟨((s.drop i).take (j - i)).toArray⟩ := by
  rw [Lib.extract_eq]

/-- What the reference's Read hands back. -/
def Read6 (B : Nat) (w : World) (o : Hd) (is : Bool) (e : Ending) (w' : World) : Prop :=
  e = .returned (.tuple #[headV o, .bool is]) ∧ KeptIn (· < B) w w'

set_option maxHeartbeats 2000000 in
set_option maxRecDepth 100000 in
theorem r6Read (s : List UInt8) (w : World) (hs : s.length ≤ 65536) :
    Calls Tryz.prog 55 #[.string ⟨s.toArray⟩] w (Read6 w.heap.size w (headR s) (isH s)) := by
  obtain ⟨is, his⟩ : ∃ is, isH s = is := ⟨_, rfl⟩
  obtain ⟨o, ho⟩ : ∃ o, headR s = o := ⟨_, rfl⟩
  rw [his, ho]
  obtain ⟨B, hB⟩ : ∃ B, w.heap.size = B := ⟨_, rfl⟩
  obtain ⟨W0, hW0⟩ : ∃ W0, w.alloc (.cells #[.int .u64 0, .int .i64 0, .int .i64 0, .int .i64 0, .int .i64 0] 39) = W0 := ⟨_, rfl⟩
  have hx0 : BoxH B noH W0 := by rw [← hW0, ← hB]; exact heap_alloc_new w _
  have hk0 : KeptIn (· < B) w W0 := by rw [← hW0]; exact (KeptIn.refl _ w).alloc (fun k hk => by rw [hB]; exact hk) _
  have hsz0 : W0.heap.size = B + 1 := by rw [← hW0, ← hB]; simp
  have HB := Lib.hid hB
  rw [hB]
  by_cases h16 : s.length = 16
  · have hl : (s.length : Int) = 16 := by omega
    have z1 : 1 < (⟨s.toArray⟩ : ByteArray).size := by rw [show (⟨s.toArray⟩ : ByteArray).size = s.length from List.size_toArray ..]; omega
    obtain ⟨vc, hvc⟩ : ∃ v, (s.getD 1 0).toNat = v := ⟨_, rfl⟩
    have b1 : (⟨s.toArray⟩ : ByteArray)[1].toNat = vc := by
      rw [← hvc, List.getD_eq_getElem?_getD, List.getElem?_eq_getElem (by omega)]
      rfl
    have c255 : (vc : Int) ≤ 255 := by have := (s.getD 1 0).toNat_lt; omega
    obtain ⟨qg, hqg⟩ : ∃ q, (s.drop 6).take 4 = q := ⟨_, rfl⟩
    obtain ⟨qr, hqr⟩ : ∃ q, (s.drop 10).take 2 = q := ⟨_, rfl⟩
    obtain ⟨qs, hqs⟩ : ∃ q, (s.drop 2).take 2 = q := ⟨_, rfl⟩
    obtain ⟨qf, hqf⟩ : ∃ q, (s.drop 4).take 2 = q := ⟨_, rfl⟩
    have x1 : (⟨s.toArray⟩ : ByteArray).extract 6 10 = ⟨qg.toArray⟩ := by rw [sub_str s 6 10 (by omega) (by omega), ← hqg]
    have x2 : (⟨s.toArray⟩ : ByteArray).extract 10 12 = ⟨qr.toArray⟩ := by rw [sub_str s 10 12 (by omega) (by omega), ← hqr]
    have x3 : (⟨s.toArray⟩ : ByteArray).extract 2 4 = ⟨qs.toArray⟩ := by rw [sub_str s 2 4 (by omega) (by omega), ← hqs]
    have x4 : (⟨s.toArray⟩ : ByteArray).extract 4 6 = ⟨qf.toArray⟩ := by rw [sub_str s 4 6 (by omega) (by omega), ← hqf]
    have y1 : qg.length ≤ 8 := by rw [← hqg, List.length_take]; omega
    have y2 : qr.length ≤ 8 := by rw [← hqr, List.length_take]; omega
    have y3 : qs.length ≤ 8 := by rw [← hqs, List.length_take]; omega
    have y4 : qf.length ≤ 8 := by rw [← hqf, List.length_take]; omega
    have n2 := num_le qr 2 (by rw [← hqr, List.length_take]; omega)
    have n3 := num_le qs 2 (by rw [← hqs, List.length_take]; omega)
    have n4 := num_le qf 2 (by rw [← hqf, List.length_take]; omega)
    have hin : headIn s = ⟨numLE qg, numLE qr, numLE qs, numLE qf, vc⟩ := by rw [headIn, hqg, hqr, hqs, hqf, hvc]
    simp only [Nat.reduceMul, Nat.reducePow] at n2 n3 n4
    have p2 : (numLE qr : Int) ≤ 65535 := by omega
    have p3 : (numLE qs : Int) ≤ 65535 := by omega
    have p4 : (numLE qf : Int) ≤ 65535 := by omega
    have o2 : (0 : Int) ≤ (numLE qr : Int) := by omega
    have o3 : (0 : Int) ≤ (numLE qs : Int) := by omega
    have o4 : (0 : Int) ≤ (numLE qf : Int) := by omega
    have o5 : (0 : Int) ≤ (vc : Int) := by omega
    have w2 : IntKind.i64.wrap (numLE qr : Int) = (numLE qr : Int) := by rw [IntKind.wrap_i64]; omega
    have w5 : IntKind.i64.wrap (vc : Int) = (vc : Int) := by rw [IntKind.wrap_i64]; omega
    have HIN := Lib.hid hin
    have H0 := Lib.hid (And.intro hx0 (And.intro hk0 hsz0))
    have HW0 := Lib.hid hW0
    have HS := Lib.hid (And.intro his (And.intro ho h16))
    clear hvc hqg hqr hqs hqf n2 n3 n4 hin hx0 hk0 hsz0 hW0 hB hs his ho h16
    go_enter Tryz.func55, Tryz.ntmps55
    go_upto_region 3 with fail
    rw [HW0.out, HB.out]
    go_cut [4] from 5 (fun v wx => v = .pointer (some ⟨B + 1, 0, none⟩) ∧ Hid (BoxH B noH wx ∧ BoxH (B + 1) ⟨numLE qg, numLE qr, 0, 0, vc⟩ wx ∧ KeptIn (· < B) w wx))
    case first =>
      have hD : Hid (BoxH B noH (W0.alloc (.cells #[.int .u64 (numLE qg), .int .i64 (numLE qr), .int .i64 0, .int .i64 0, .int .i64 vc] 39)).drew ∧ BoxH (B + 1) ⟨numLE qg, numLE qr, 0, 0, vc⟩ (W0.alloc (.cells #[.int .u64 (numLE qg), .int .i64 (numLE qr), .int .i64 0, .int .i64 0, .int .i64 vc] 39)).drew ∧ KeptIn (· < B) w (W0.alloc (.cells #[.int .u64 (numLE qg), .int .i64 (numLE qr), .int .i64 0, .int .i64 0, .int .i64 vc] 39)).drew) := Lib.hid
        ⟨H0.out.1.kept (((KeptIn.refl (· < W0.heap.size) W0).alloc (fun _ h => h) _).drew) H0.out.1.lt, by
          have := BoxH.new W0 ⟨numLE qg, numLE qr, 0, 0, vc⟩
          rw [H0.out.2.2] at this
          exact this, H0.out.2.1.trans (((KeptIn.refl (· < W0.heap.size) W0).alloc (fun _ h => h) _).drew.mono fun k hk => Nat.lt_trans hk H0.out.1.lt)⟩
      have HSZ := Lib.hid H0.out.2.2
      go_region_law (first
        | (go_simp; go_at_call 56; refine (rnumber _ (by assumption) _).mono ?_; rintro e _ ⟨rfl, rfl⟩))
      all_goals
        go_wp2_with fail
        go_meet
        case rel => exact ⟨by rw [HSZ.out], hD⟩
    case rest =>
      obtain ⟨rfl, HD⟩ := hcut
      clear x1 x2 b1 z1 y1 y2 w2 w5 HW0 H0
      have C3 := Lib.hid fun V => rnumber qs y3 V
      have C4 := Lib.hid fun V => rnumber qf y4 V
      clear y3 y4
      obtain ⟨vg, hvg⟩ : ∃ v, numLE qg = v := ⟨_, rfl⟩
      obtain ⟨vr, hvr⟩ : ∃ v, numLE qr = v := ⟨_, rfl⟩
      obtain ⟨vs, hvs⟩ : ∃ v, numLE qs = v := ⟨_, rfl⟩
      obtain ⟨vf, hvf⟩ : ∃ v, numLE qf = v := ⟨_, rfl⟩
      simp only [hvg, hvr, hvs, hvf] at *
      clear hvg hvr hvs hvf
      have c2 := HD.out.2.1.c2
      have f2 := HD.out.2.1.fz 2
      simp only at c2
      go_wp2_with fail
      refine (C3.out _).mono ?_
      rintro e _ ⟨rfl, rfl⟩
      obtain ⟨D2, hD2⟩ : ∃ D, wc.setCell ⟨B + 1, 2, none⟩ (.int .i64 vs) = D := ⟨_, rfl⟩
      have h2 : BoxH B noH D2 ∧ BoxH (B + 1) ⟨vg, vr, vs, 0, vc⟩ D2 ∧ KeptIn (· < B) w D2 := by
        rw [← hD2]
        exact ⟨(heap_setCell_other _ _ _ _ (by simp)).trans HD.out.1, HD.out.2.1.set2 vs, HD.out.2.2.setCell (p := ⟨B + 1, 2, none⟩) (by simp) _⟩
      have HN2 := Lib.hid hD2
      have H2 := Lib.hid h2
      clear C3 hD2 h2 HD
      go_wp2_with fail
      rw [HN2.out]
      clear c2 f2 HN2
      have c3 := H2.out.2.1.c3
      have f3 := H2.out.2.1.fz 3
      simp only at c3
      refine (C4.out _).mono ?_
      rintro e _ ⟨rfl, rfl⟩
      obtain ⟨D3, hD3⟩ : ∃ D, D2.setCell ⟨B + 1, 3, none⟩ (.int .i64 vf) = D := ⟨_, rfl⟩
      have h3 : BoxH B noH D3 ∧ BoxH (B + 1) ⟨vg, vr, vs, vf, vc⟩ D3 ∧ KeptIn (· < B) w D3 := by
        rw [← hD3]
        exact ⟨(heap_setCell_other _ _ _ _ (by simp)).trans H2.out.1, H2.out.2.1.set3 vf, H2.out.2.2.setCell (p := ⟨B + 1, 3, none⟩) (by simp) _⟩
      have HN3 := Lib.hid hD3
      have H3 := Lib.hid h3
      clear C4 hD3 h3 H2
      have CG := Lib.hid fun V => r6Good ⟨vg, vr, vs, vf, vc⟩ V
      unfold headV at CG
      simp only at CG
      have HC : Hid (∀ V, KeptIn (· < D3.heap.size) D3 V → (BoxH B noH V ∧ KeptIn (· < B) w V) ∧ V.cell? ⟨B + 1, 0, none⟩ = some (.int .u64 vg) ∧ V.cell? ⟨B + 1, 1, none⟩ = some (.int .i64 vr) ∧ V.cell? ⟨B + 1, 2, none⟩ = some (.int .i64 vs) ∧ V.cell? ⟨B + 1, 3, none⟩ = some (.int .i64 vf) ∧ V.cell? ⟨B + 1, 4, none⟩ = some (.int .i64 vc)) := Lib.hid fun V h => by
        have hx := H3.out.2.1.kept h H3.out.2.1.lt
        exact ⟨⟨H3.out.1.kept h H3.out.1.lt, H3.out.2.2.trans (h.mono fun k hk => Nat.lt_trans hk H3.out.1.lt)⟩, hx.c0, hx.c1, hx.c2, hx.c3, hx.c4⟩
      have k0 := (HC.out D3 (KeptIn.refl _ _)).2
      rw [← HN3.out] at k0
      obtain ⟨k0, k1, k2, k3, k4⟩ := k0
      have HI : Hid (isH s = (goodH ⟨vg, vr, vs, vf, vc⟩ && decide (bytesH ⟨vg, vr, vs, vf, vc⟩ = s))) := Lib.hid (by rw [isH, HIN.out, decide_eq_true HS.out.2.2, Bool.true_and])
      have HO : Hid ((isH s = false → is = false ∧ o = noH) ∧ (isH s = true → is = true ∧ o = ⟨vg, vr, vs, vf, vc⟩)) := Lib.hid
        ⟨fun h => ⟨HS.out.1.symm.trans h, by rw [← HS.out.2.1, headR, h]; rfl⟩, fun h => ⟨HS.out.1.symm.trans h, by rw [← HS.out.2.1, headR, h, if_pos rfl, HIN.out]⟩⟩
      clear HS HIN x3 x4
      cases hg : goodH ⟨vg, vr, vs, vf, vc⟩ with
      | false =>
        obtain ⟨rfl, rfl⟩ := HO.out.1 (by rw [HI.out, hg]; rfl)
        simp only [hg] at CG
        clear hg HI HO
        go_wp2_with (go_at_call 32; rw [HN3.out]; refine (CG.out D3).mono ?_; rintro e V4 ⟨rfl, k4⟩; obtain ⟨⟨z0, z1, z2, z3, z4⟩, f0, f1, f2, f3, f4⟩ := (HC.out V4 k4).1.1.zero)
        have HF := Lib.hid (HC.out V4 k4).1
        have hpt := HF.out.1.put0
        have hkt := HF.out.2.put0 (Nat.lt_irrefl B)
        have HPT := Lib.hid hpt
        have HKT := Lib.hid hkt
        clear hpt hkt
        try simp only [Exit.inBlock, Exit.then]
        refine bodyPost_ret (results_head rfl _ _ B noH rfl HPT.out) rfl ?_
        unfold Read6
        exact ⟨rfl, HKT.out⟩
      | true =>
        obtain ⟨bb, hbb⟩ : ∃ bb, bytesH ⟨vg, vr, vs, vf, vc⟩ = bb := ⟨_, rfl⟩
        have CB := Lib.hid fun V (hk : KeptIn (· < D3.heap.size) D3 V) => (r6Bytes ⟨vg, vr, vs, vf, vc⟩ hg V).mono (R' := fun e w' => e = .returned (.string ⟨bb.toArray⟩) ∧ KeptIn (· < D3.heap.size) D3 w') fun e w' ⟨he, h⟩ => ⟨by rw [he, hbb], hk.trans (h.mono fun k h => Nat.lt_of_lt_of_le h hk.size)⟩
        unfold headV at CB
        simp only at CB
        simp only [hg] at CG
        have HI2 : Hid (isH s = decide (bb = s)) := Lib.hid (by rw [HI.out, hg, hbb, Bool.true_and])
        clear hg hbb HI
        go_wp2_with (go_at_call 32; rw [HN3.out]; refine (CG.out D3).mono ?_; rintro e V4 ⟨rfl, k4⟩; obtain ⟨_, d0, d1, d2, d3, d4⟩ := HC.out V4 k4)
        by_cases hbs : bb = s
        · obtain ⟨rfl, rfl⟩ := HO.out.2 (by rw [HI2.out]; exact decide_eq_true hbs)
          have hq : (bb == s) = true := by rw [hbs]; exact beq_self_eq_true s
          clear hbs HI2 HO
          refine (CB.out V4 k4).mono ?_
          rintro e V5 ⟨rfl, k5⟩
          obtain ⟨h5, e0, e1, e2, e3, e4⟩ := HC.out V5 k5
          obtain ⟨⟨z0, z1, z2, z3, z4⟩, f0, f1, f2, f3, f4⟩ := h5.1.zero
          have HF := Lib.hid h5
          clear d0 d1 d2 d3 d4 h5 k5
          go_wp2_with fail
          have hpt := HF.out.1.put ⟨vg, vr, vs, vf, vc⟩
          have hkt := HF.out.2.put (Nat.lt_irrefl B) ⟨vg, vr, vs, vf, vc⟩
          have HPT := Lib.hid hpt
          have HKT := Lib.hid hkt
          clear hpt hkt
          try simp only [Exit.inBlock, Exit.then]
          refine bodyPost_ret (results_head rfl _ _ B ⟨vg, vr, vs, vf, vc⟩ rfl HPT.out) rfl ?_
          unfold Read6
          exact ⟨rfl, HKT.out⟩
        · obtain ⟨rfl, rfl⟩ := HO.out.1 (by rw [HI2.out]; exact decide_eq_false hbs)
          have hq : (bb == s) = false := by rw [beq_eq_false_iff_ne]; exact hbs
          clear hbs HI2 HO
          refine (CB.out V4 k4).mono ?_
          rintro e V5 ⟨rfl, k5⟩
          obtain ⟨h5, _⟩ := HC.out V5 k5
          obtain ⟨⟨z0, z1, z2, z3, z4⟩, f0, f1, f2, f3, f4⟩ := h5.1.zero
          have HF := Lib.hid h5
          clear d0 d1 d2 d3 d4 h5 k5
          go_wp2_with fail
          have hpt := HF.out.1.put0
          have hkt := HF.out.2.put0 (Nat.lt_irrefl B)
          have HPT := Lib.hid hpt
          have HKT := Lib.hid hkt
          clear hpt hkt
          try simp only [Exit.inBlock, Exit.then]
          refine bodyPost_ret (results_head rfl _ _ B noH rfl HPT.out) rfl ?_
          unfold Read6
          exact ⟨rfl, HKT.out⟩
  · have hl : (s.length : Int) ≤ 65536 := by omega
    have hl2 : ((s.length : Int) == 16) = false := by rw [beq_eq_false_iff_ne]; omega
    have hn : is = false := his.symm.trans (isH_short h16)
    have hr : o = noH := by rw [← ho, headR, isH_short h16]; rfl
    subst hn hr
    obtain ⟨⟨z0, z1, z2, z3, z4⟩, f0, f1, f2, f3, f4⟩ := hx0.zero
    have HF := Lib.hid (And.intro hx0 hk0)
    have HW0 := Lib.hid hW0
    clear hx0 hk0 hW0 h16 his ho hs hB hsz0
    go_enter Tryz.func55, Tryz.ntmps55
    go_upto_region 1 with fail
    rw [HW0.out, HB.out]
    go_wp2_with fail
    have hpt := HF.out.1.put0
    have hkt := HF.out.2.put0 (Nat.lt_irrefl B)
    have HPT := Lib.hid hpt
    have HKT := Lib.hid hkt
    clear hpt hkt
    try simp only [Exit.inBlock, Exit.then]
    refine bodyPost_ret (results_head rfl _ _ B noH rfl HPT.out) rfl ?_
    unfold Read6
    exact ⟨rfl, HKT.out⟩

end Go.Proofs.YtkgjmejgkffbdaaGreatDoor
