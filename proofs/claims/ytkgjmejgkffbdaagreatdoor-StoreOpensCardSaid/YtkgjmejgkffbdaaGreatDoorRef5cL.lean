import Derived.Test.YtkgjmejgkffbdaaGreatDoorRef5bL
import Derived.Test.YtkgjmejgkffbdaaGreatDoorRow5L
/- The reference of layer 5 (tierceref05): Read. -/
set_option linter.unusedVariables false
namespace Go.Proofs.YtkgjmejgkffbdaaGreatDoor
open Go.RowKit

theorem sub_at (s : List UInt8) (i j : Nat) (hi : i ≤ j) (hj : j ≤ s.length) : (⟨s.toArray⟩ : ByteArray).extract i j = ⟨((s.drop i).take (j - i)).toArray⟩ := by
  rw [Lib.extract_eq]

set_option maxHeartbeats 2000000 in
set_option maxRecDepth 100000 in
theorem r5Read (s : List UInt8) (w : World) (hs : s.length ≤ 65536) :
    Calls Tryz.prog 31 #[.string ⟨s.toArray⟩] w fun e w' => ∃ a cap, e = .returned (.tuple #[leafV (lvR s) a (psR s).length cap, .bool (isN s)]) ∧ IsPs w' a (psR s) ∧ KeptIn (· < w.heap.size) w w' := by
  obtain ⟨ip, hip, hp0, hp1, hp2⟩ := info_parts infoPair
  obtain ⟨B, hB⟩ : ∃ B, w.heap.size = B := ⟨_, rfl⟩
  rw [hB]
  have HB := Lib.hid hB
  by_cases h256 : s.length = 256
  · have hl : (s.length : Int) = 256 := by omega
    have z1 : 1 < (⟨s.toArray⟩ : ByteArray).size := by rw [show (⟨s.toArray⟩ : ByteArray).size = s.length from List.size_toArray ..]; omega
    have z2 : 2 < (⟨s.toArray⟩ : ByteArray).size := by rw [show (⟨s.toArray⟩ : ByteArray).size = s.length from List.size_toArray ..]; omega
    obtain ⟨L, hL⟩ : ∃ L, lvIn s = L := ⟨_, rfl⟩
    obtain ⟨c, hc⟩ : ∃ c, cntIn s = c := ⟨_, rfl⟩
    have b1 : (⟨s.toArray⟩ : ByteArray)[1].toNat = L := by
      rw [← hL, lvIn, List.getD_eq_getElem?_getD, List.getElem?_eq_getElem (by omega)]
      rfl
    have b2 : (⟨s.toArray⟩ : ByteArray)[2].toNat = c := by
      rw [← hc, cntIn, List.getD_eq_getElem?_getD, List.getElem?_eq_getElem (by omega)]
      rfl
    have L1 : (L : Int) ≤ 255 := by have := (s.getD 1 0).toNat_lt; rw [← hL, lvIn]; omega
    have c1 : (c : Int) ≤ 255 := by have := (s.getD 2 0).toNat_lt; rw [← hc, cntIn]; omega
    have HL := Lib.hid hL; have HC := Lib.hid hc; have H256 := Lib.hid h256
    clear hL hc h256 hs
    go_enter Tryz.func31, Tryz.ntmps31
    go_wp2_with fail
    have HJ0 : Hid (∃ a cap, At5 w B (B + 1) L a cap (pairsIn 0 (s.drop 4)) ((w.alloc (.cells #[.int .i64 0, .slice none 0 0] 47)).alloc (.cells #[.int .i64 L, .slice none 0 0] 47))) := Lib.hid ⟨none, 0, by
      have k1 : KeptIn (· < B) w (w.alloc (.cells #[.int .i64 0, .slice none 0 0] 47)) := (KeptIn.refl _ w).alloc (fun k hk => by rw [HB.out]; exact hk) _
      have x1 := BoxL.new w 0 none 0 0
      have x2 := BoxL.new (w.alloc (.cells #[.int .i64 0, .slice none 0 0] 47)) L none 0 0
      rw [HB.out] at x1
      rw [World.size_alloc, HB.out] at x2
      exact ⟨k1.alloc (fun k hk => by rw [HB.out]; exact hk) _, x1.kept ((KeptIn.refl (· < B + 1) _).alloc (fun k hk => by rw [World.size_alloc, HB.out]; exact hk) _) (Nat.lt_succ_self _), x2, ⟨rfl, .inl ⟨rfl, rfl⟩⟩, Nat.lt_succ_self _⟩⟩
    clear hB
    go_loopw [5] (fun i wr => ∃ (j : Nat) (W : World), W = wr ∧ j ≤ c ∧ j ≤ 15 ∧ i = .int .i64 j ∧ Hid (∃ a cap, At5 w B (B + 1) L a cap (pairsIn j (s.drop 4)) W)) (fun i _ => 15 - (RowKit.intOf i).toNat)
    case atStart => exact ⟨0, _, rfl, Nat.zero_le _, Nat.zero_le _, rfl, HJ0⟩
    case round =>
      obtain ⟨j, W, rfl, hjc, hj15, rfl, HJ⟩ := hrel
      clear HJ0
      have d0 : (0 : Int) ≤ (j : Int) := by omega
      by_cases hgo : j < c ∧ j < 15
      · have d1 : (j : Int) < (c : Int) := by omega
        have d2 : (j : Int) < 15 := by omega
        go_upto_region 8 with fail
        obtain ⟨p, hp⟩ : ∃ p, 4 + 16 * j = p := ⟨_, rfl⟩
        obtain ⟨p8, hp8⟩ : ∃ p8, p + 8 = p8 := ⟨_, rfl⟩
        obtain ⟨p16, hp16⟩ : ∃ p16, p + 16 = p16 := ⟨_, rfl⟩
        rw [show (4 : Int) + 16 * (j : Int) = (p : Int) by omega]
        have hsl := H256.out
        have i0 : (0 : Int) ≤ (p : Int) := by omega
        have i1 : (p : Int) ≤ (p8 : Int) := by omega
        have i2 : (p8 : Int) ≤ (p16 : Int) := by omega
        have i3 : (p16 : Int) ≤ 256 := by omega
        have i4 : (p8 : Int) ≤ 256 := by omega
        have s1 : IntKind.i64.wrap ((p : Int) + 8) = (p8 : Int) := by rw [IntKind.wrap_i64]; omega
        have s2 : IntKind.i64.wrap ((p : Int) + 16) = (p16 : Int) := by rw [IntKind.wrap_i64]; omega
        have s3 : wrap64 ((p : Int) + 8) = (p8 : Int) := by unfold wrap64; omega
        have s4 : wrap64 ((p : Int) + 16) = (p16 : Int) := by unfold wrap64; omega
        obtain ⟨q1, hq1⟩ : ∃ q, (s.drop p).take 8 = q := ⟨_, rfl⟩
        obtain ⟨q2, hq2⟩ : ∃ q, (s.drop p8).take 8 = q := ⟨_, rfl⟩
        have hex1 : (⟨s.toArray⟩ : ByteArray).extract p p8 = ⟨q1.toArray⟩ := by
          rw [sub_at s p p8 (by omega) (by omega), ← hq1, show p8 - p = 8 by omega]
        have hex2 : (⟨s.toArray⟩ : ByteArray).extract p8 p16 = ⟨q2.toArray⟩ := by
          rw [sub_at s p8 p16 (by omega) (by omega), ← hq2, show p16 - p8 = 8 by omega]
        have hl1 : q1.length ≤ 8 := by rw [← hq1, List.length_take]; omega
        have hl2 : q2.length ≤ 8 := by rw [← hq2, List.length_take]; omega
        have hpair : pairIn ((s.drop 4).drop (16 * j)) = (numLE q1, numLE q2) := by
          unfold pairIn
          rw [List.drop_drop, List.drop_drop, show 4 + 16 * j = p from hp, show p + 8 = p8 from hp8, hq1, hq2]
        have hsn := pairsIn_snoc j (s.drop 4)
        rw [hpair] at hsn
        obtain ⟨a, cap, h5⟩ := HJ.out
        have hln : (pairsIn j (s.drop 4)).length = j := pairsIn_length j _
        have H5 := Lib.hid h5
        have HSN := Lib.hid hsn
        have hrn := h5.row
        have hbx := h5.box
        have hW := h5.res.lt
        rw [hln] at hrn hbx
        have c1' := hbx.c1
        have f1' := hbx.f1
        have c2' : (W.alloc (.cells #[.int .u64 (numLE q1), .int .u64 (numLE q2)] 100)).cell? ⟨B + 1, 1, none⟩ = some (.slice a j cap) := (World.cell?_of_block (a := ⟨B + 1, 1, none⟩) (Lib.alloc_old W _ _ hbx.lt)).trans c1'
        have hneB := rowS_ne hrn hbx (by decide)
        have HB1 : Hid (∀ w1, ((W.alloc (.cells #[.int .u64 (numLE q1), .int .u64 (numLE q2)] 100)).drew).grownBy w1 (Value.slice a j cap).ownBlock → w1.cell? ⟨B + 1, 1, none⟩ = some (.slice a j cap) ∧ w1.frozen? ⟨B + 1, 1, none⟩ = false) := Lib.hid fun w1 hg => by
          have h1 : w1.heap[B + 1]? = W.heap[B + 1]? := (hg.block _ (by have := hbx.lt; simp [World.drew]; omega) (fun e => hneB e.symm)).trans (Lib.alloc_old W _ _ hbx.lt)
          exact ⟨(World.cell?_of_block (a := ⟨B + 1, 1, none⟩) h1).trans c1', (World.frozen?_of_block (a := ⟨B + 1, 1, none⟩) h1).trans f1'⟩
        have HLN := Lib.hid hln
        clear hsn hpair hq1 hq2 hp hp8 hp16 hsl h5 hln hneB HJ
        go_wp2_with fail
        go_region_law (first
          | (refine step_append_lies _ (by rfl) _ _ 45 (by rfl) B 100 ip _ 2 16 Tryz.underlying45 hip hp0 hp1 hp2 rfl (by omega) (.slice a j cap) j _ (by rfl) ((hrn.alloc _).drew) ⟨W.heap.size, 0, none⟩ 1 1 [.int .u64 (numLE q1), .int .u64 (numLE q2)] (by rfl) (by rfl) (World.news_of_block (cs := #[.int .u64 (numLE q1), .int .u64 (numLE q2)]) (t := 100) (fr := (0, 0)) (heap_alloc_new W _)) (by simp [Value.oneCell']) (by omega) (by unfold maxLen; omega) (by omega) (by simp; omega) (W.heap.size + 1) (by simp) ?_; intro gg cap' w1 hown1 hgrow hat hlt1; obtain ⟨d0, df⟩ := HB1.out w1 hgrow)
          | (go_simp; go_at_call 56; refine (rnumber _ (by assumption) _).mono ?_; rintro e _ ⟨rfl, rfl⟩))
        all_goals
          have HJ2 : Hid (∃ a cap, At5 w B (B + 1) L a cap (pairsIn (j + 1) (s.drop 4)) (w1.setCell ⟨B + 1, 1, none⟩ (.slice (some ⟨gg, 0, none⟩) (j + 1) cap'))) := Lib.hid ⟨_, _, by
            have := H5.out.app (((KeptIn.refl _ W).alloc (fun _ h => h) _).drew) (numLE q1, numLE q2) (by rw [HLN.out]; exact hgrow) (by rw [HLN.out]; exact hown1)
            rw [HLN.out] at this
            rw [HSN.out]
            exact this⟩
          clear hown1 hgrow hat hrn hbx hW HB1 d0 df c1' c2' f1' H5 HSN hlt1 i0 i1 i2 i3 i4 s1 s2 s3 s4 hex1 hex2 hl1 hl2
          go_wp2_with fail
          go_roundw
          case rel => exact ⟨j + 1, _, rfl, by omega, by omega, by go_num, HJ2⟩
          case measure => simp [RowKit.intOf]; omega
      · have hjm : pairsIn j (s.drop 4) = psIn s := by rw [psIn, HC.out, show min c 15 = j by omega]
        obtain ⟨a, cap, h5⟩ := HJ.out
        have hln : (pairsIn j (s.drop 4)).length = j := pairsIn_length j _
        have HPS := Lib.hid (pairsIn_fits j (s.drop 4))
        rw [hjm] at h5 hln HPS
        have q0 := h5.box.c0; have q1 := h5.box.c1
        rw [hln] at q1
        have HGD := Lib.hid fun V (hk : KeptIn (· < W.heap.size) W V) => r5Good L a cap (psIn s) V ((h5.psOf HPS.out).old hk)
        rw [hln] at HGD
        have H5 := Lib.hid h5
        have HLN := Lib.hid hln
        clear h5 hln hjm HJ
        by_cases hjc' : j < c
        · have d1 : (j : Int) < (c : Int) := by omega
          have d2 : (15 : Int) ≤ (j : Int) := by omega
          clear hgo
          cases hg : goodN L (psIn s) with
          | false =>
            simp only [hg] at HGD
            have hN : isN s = false := by rw [isN, HL.out, hg]; simp
            have hR : lvR s = 0 ∧ psR s = [] := by rw [lvR, psR, hN]; exact ⟨rfl, rfl⟩
            have HR := Lib.hid (And.intro hN hR)
            clear hg hN hR
            go_wp2_with (go_at_call 42; refine (HGD.out _ (KeptIn.refl _ _)).mono ?_)
            rintro e V ⟨rfl, kV⟩
            have hV := H5.out.old H5.out.res.lt kV
            have p0 := hV.res.c0; have p1 := hV.res.c1; have o0 := hV.res.f0; have o1 := hV.res.f1
            have HK := Lib.hid hV.kept
            have HBX0 := Lib.hid hV.res
            clear kV hV q0 q1
            go_wp2_with fail
            have HBX : Hid (BoxL B 0 none 0 0 ((V.setCell ⟨B, 0, none⟩ (.int .i64 0)).setCell ⟨B, 1, none⟩ (.slice none 0 0))) := Lib.hid HBX0.out.set
            refine bodyPost_ret (results_leaf rfl _ _ B 0 none 0 0 rfl HBX.out) rfl ?_
            refine ⟨none, 0, by rw [HR.out.1, HR.out.2.1, HR.out.2.2]; rfl, by rw [HR.out.2.2]; exact IsPs.none _ _, (HK.out.setCell (p := ⟨B, 0, none⟩) (Nat.lt_irrefl B) _).setCell (p := ⟨B, 1, none⟩) (Nat.lt_irrefl B) _⟩
          | true =>
            simp only [hg] at HGD
            obtain ⟨bb, hbb⟩ : ∃ bb, bytesN (L : Int) (psIn s) = bb := ⟨_, rfl⟩
            have CB := Lib.hid fun V (hk : KeptIn (· < W.heap.size) W V) => r5Bytes L a cap (psIn s) V ((H5.out.psOf HPS.out).old hk) hg
            simp only [hbb, HLN.out] at CB
            have HIN : Hid (isN s = decide (bb = s)) := Lib.hid (by rw [isN, HL.out, hg, hbb, H256.out]; simp)
            clear hg hbb
            go_wp2_with (go_at_call 42; refine (HGD.out _ (KeptIn.refl _ _)).mono ?_)
            rintro e V ⟨rfl, kV⟩
            have hV := H5.out.old H5.out.res.lt kV
            have p0 := hV.box.c0; have p1 := hV.box.c1
            rw [HLN.out] at p1
            have HV := Lib.hid hV
            have KV := Lib.hid kV
            clear kV hV q0 q1
            go_wp2_with (go_at_call 57; refine (CB.out _ KV.out).mono ?_)
            rintro e V2 ⟨rfl, k2⟩
            have h2 := HV.out.old HV.out.res.lt k2
            have p0' := h2.box.c0; have p1' := h2.box.c1
            rw [HLN.out] at p1'
            have o0 := h2.res.c0; have o1 := h2.res.c1; have o2 := h2.res.f0; have o3 := h2.res.f1
            have H2 := Lib.hid h2
            clear k2 h2 p0 p1
            by_cases hbs : bb = s
            · have hN : isN s = true := by rw [HIN.out, decide_eq_true hbs]
              have hR : lvR s = L ∧ psR s = psIn s := by rw [lvR, psR, hN, HL.out]; exact ⟨rfl, rfl⟩
              have hq : (bb == s) = true := by rw [hbs]; exact beq_self_eq_true s
              have HR := Lib.hid (And.intro hN hR)
              clear hbs hN hR
              go_wp2_with fail
              have HBX : Hid (BoxL B L a j cap ((V2.setCell ⟨B, 0, none⟩ (.int .i64 L)).setCell ⟨B, 1, none⟩ (.slice a j cap))) := Lib.hid H2.out.res.set
              refine bodyPost_ret (results_leaf rfl _ _ B L a j cap rfl HBX.out) rfl ?_
              refine ⟨a, cap, by rw [HR.out.1, HR.out.2.1, HR.out.2.2, HLN.out]; rfl, ?_, (H2.out.kept.setCell (p := ⟨B, 0, none⟩) (Nat.lt_irrefl B) _).setCell (p := ⟨B, 1, none⟩) (Nat.lt_irrefl B) _⟩
              rw [HR.out.2.2]
              have hne : ∀ g, (Value.slice a (psIn s).length cap).ownBlock = some g → g ≠ B := fun g e e2 => rowS_ne H2.out.row H2.out.res (by decide) (by rw [e, e2])
              exact row_IsPs (rowS_block H2.out.row fun g e => ((heap_setCell_other _ _ _ _ (hne g e)).trans (heap_setCell_other _ _ _ _ (hne g e)))) HPS.out
            · have hN : isN s = false := by rw [HIN.out, decide_eq_false hbs]
              have hR : lvR s = 0 ∧ psR s = [] := by rw [lvR, psR, hN]; exact ⟨rfl, rfl⟩
              have hq : (bb == s) = false := by rw [beq_eq_false_iff_ne]; exact hbs
              have HR := Lib.hid (And.intro hN hR)
              clear hbs hN hR
              go_wp2_with fail
              have HBX : Hid (BoxL B 0 none 0 0 ((V2.setCell ⟨B, 0, none⟩ (.int .i64 0)).setCell ⟨B, 1, none⟩ (.slice none 0 0))) := Lib.hid H2.out.res.set
              refine bodyPost_ret (results_leaf rfl _ _ B 0 none 0 0 rfl HBX.out) rfl ?_
              refine ⟨none, 0, by rw [HR.out.1, HR.out.2.1, HR.out.2.2]; rfl, by rw [HR.out.2.2]; exact IsPs.none _ _, (H2.out.kept.setCell (p := ⟨B, 0, none⟩) (Nat.lt_irrefl B) _).setCell (p := ⟨B, 1, none⟩) (Nat.lt_irrefl B) _⟩
        · have d1 : (c : Int) ≤ (j : Int) := by omega
          clear hgo
          cases hg : goodN L (psIn s) with
          | false =>
            simp only [hg] at HGD
            have hN : isN s = false := by rw [isN, HL.out, hg]; simp
            have hR : lvR s = 0 ∧ psR s = [] := by rw [lvR, psR, hN]; exact ⟨rfl, rfl⟩
            have HR := Lib.hid (And.intro hN hR)
            clear hg hN hR
            go_wp2_with (go_at_call 42; refine (HGD.out _ (KeptIn.refl _ _)).mono ?_)
            rintro e V ⟨rfl, kV⟩
            have hV := H5.out.old H5.out.res.lt kV
            have p0 := hV.res.c0; have p1 := hV.res.c1; have o0 := hV.res.f0; have o1 := hV.res.f1
            have HK := Lib.hid hV.kept
            have HBX0 := Lib.hid hV.res
            clear kV hV q0 q1
            go_wp2_with fail
            have HBX : Hid (BoxL B 0 none 0 0 ((V.setCell ⟨B, 0, none⟩ (.int .i64 0)).setCell ⟨B, 1, none⟩ (.slice none 0 0))) := Lib.hid HBX0.out.set
            refine bodyPost_ret (results_leaf rfl _ _ B 0 none 0 0 rfl HBX.out) rfl ?_
            refine ⟨none, 0, by rw [HR.out.1, HR.out.2.1, HR.out.2.2]; rfl, by rw [HR.out.2.2]; exact IsPs.none _ _, (HK.out.setCell (p := ⟨B, 0, none⟩) (Nat.lt_irrefl B) _).setCell (p := ⟨B, 1, none⟩) (Nat.lt_irrefl B) _⟩
          | true =>
            simp only [hg] at HGD
            obtain ⟨bb, hbb⟩ : ∃ bb, bytesN (L : Int) (psIn s) = bb := ⟨_, rfl⟩
            have CB := Lib.hid fun V (hk : KeptIn (· < W.heap.size) W V) => r5Bytes L a cap (psIn s) V ((H5.out.psOf HPS.out).old hk) hg
            simp only [hbb, HLN.out] at CB
            have HIN : Hid (isN s = decide (bb = s)) := Lib.hid (by rw [isN, HL.out, hg, hbb, H256.out]; simp)
            clear hg hbb
            go_wp2_with (go_at_call 42; refine (HGD.out _ (KeptIn.refl _ _)).mono ?_)
            rintro e V ⟨rfl, kV⟩
            have hV := H5.out.old H5.out.res.lt kV
            have p0 := hV.box.c0; have p1 := hV.box.c1
            rw [HLN.out] at p1
            have HV := Lib.hid hV
            have KV := Lib.hid kV
            clear kV hV q0 q1
            go_wp2_with (go_at_call 57; refine (CB.out _ KV.out).mono ?_)
            rintro e V2 ⟨rfl, k2⟩
            have h2 := HV.out.old HV.out.res.lt k2
            have p0' := h2.box.c0; have p1' := h2.box.c1
            rw [HLN.out] at p1'
            have o0 := h2.res.c0; have o1 := h2.res.c1; have o2 := h2.res.f0; have o3 := h2.res.f1
            have H2 := Lib.hid h2
            clear k2 h2 p0 p1
            by_cases hbs : bb = s
            · have hN : isN s = true := by rw [HIN.out, decide_eq_true hbs]
              have hR : lvR s = L ∧ psR s = psIn s := by rw [lvR, psR, hN, HL.out]; exact ⟨rfl, rfl⟩
              have hq : (bb == s) = true := by rw [hbs]; exact beq_self_eq_true s
              have HR := Lib.hid (And.intro hN hR)
              clear hbs hN hR
              go_wp2_with fail
              have HBX : Hid (BoxL B L a j cap ((V2.setCell ⟨B, 0, none⟩ (.int .i64 L)).setCell ⟨B, 1, none⟩ (.slice a j cap))) := Lib.hid H2.out.res.set
              refine bodyPost_ret (results_leaf rfl _ _ B L a j cap rfl HBX.out) rfl ?_
              refine ⟨a, cap, by rw [HR.out.1, HR.out.2.1, HR.out.2.2, HLN.out]; rfl, ?_, (H2.out.kept.setCell (p := ⟨B, 0, none⟩) (Nat.lt_irrefl B) _).setCell (p := ⟨B, 1, none⟩) (Nat.lt_irrefl B) _⟩
              rw [HR.out.2.2]
              have hne : ∀ g, (Value.slice a (psIn s).length cap).ownBlock = some g → g ≠ B := fun g e e2 => rowS_ne H2.out.row H2.out.res (by decide) (by rw [e, e2])
              exact row_IsPs (rowS_block H2.out.row fun g e => ((heap_setCell_other _ _ _ _ (hne g e)).trans (heap_setCell_other _ _ _ _ (hne g e)))) HPS.out
            · have hN : isN s = false := by rw [HIN.out, decide_eq_false hbs]
              have hR : lvR s = 0 ∧ psR s = [] := by rw [lvR, psR, hN]; exact ⟨rfl, rfl⟩
              have hq : (bb == s) = false := by rw [beq_eq_false_iff_ne]; exact hbs
              have HR := Lib.hid (And.intro hN hR)
              clear hbs hN hR
              go_wp2_with fail
              have HBX : Hid (BoxL B 0 none 0 0 ((V2.setCell ⟨B, 0, none⟩ (.int .i64 0)).setCell ⟨B, 1, none⟩ (.slice none 0 0))) := Lib.hid H2.out.res.set
              refine bodyPost_ret (results_leaf rfl _ _ B 0 none 0 0 rfl HBX.out) rfl ?_
              refine ⟨none, 0, by rw [HR.out.1, HR.out.2.1, HR.out.2.2]; rfl, by rw [HR.out.2.2]; exact IsPs.none _ _, (H2.out.kept.setCell (p := ⟨B, 0, none⟩) (Nat.lt_irrefl B) _).setCell (p := ⟨B, 1, none⟩) (Nat.lt_irrefl B) _⟩
  · have hl : ((s.length : Int) == 256) = false := by rw [beq_eq_false_iff_ne]; omega
    have hl2 : (s.length == 256) = false := by rw [beq_eq_false_iff_ne]; exact h256
    have hm : (s.length : Int) ≤ 65536 := by omega
    have hN : isN s = false := by rw [isN, decide_eq_false h256]; rfl
    have hR : lvR s = 0 ∧ psR s = [] := by rw [lvR, psR, hN]; exact ⟨rfl, rfl⟩
    have HR := Lib.hid (And.intro hN hR)
    have hx := BoxL.new w 0 none 0 0
    rw [hB] at hx
    have HX := Lib.hid hx
    clear hN hR h256 hs hx
    go_enter Tryz.func31, Tryz.ntmps31
    go_wp2_with fail
    refine bodyPost_ret (results_leaf rfl _ _ B 0 none 0 0 rfl HX.out) rfl ?_
    refine ⟨none, 0, by rw [HR.out.1, HR.out.2.1, HR.out.2.2]; rfl, by rw [HR.out.2.2]; exact IsPs.none _ _, (KeptIn.refl _ w).alloc (fun k hk => by rw [HB.out]; exact hk) _⟩

end Go.Proofs.YtkgjmejgkffbdaaGreatDoor
