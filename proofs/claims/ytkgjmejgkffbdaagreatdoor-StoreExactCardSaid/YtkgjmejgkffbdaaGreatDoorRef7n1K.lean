import Derived.Test.YtkgjmejgkffbdaaGreatDoorRef7nK
import Derived.Deep.RegionLaw
import Derived.Deep.RegionHeld3
/- The reference of layer 7 (tierceref07): Next: no head. -/
set_option linter.unusedVariables false
namespace Go.Proofs.YtkgjmejgkffbdaaGreatDoor
open Go.RowKit




attribute [local go_sem] undef

set_option maxHeartbeats 16000000 in
set_option maxRecDepth 100000 in
theorem r7Next1 {A : Ad} {R : R7} {n : Nat} {K F : Nat → Bool} {L : Nat → Option Nat} {h : Hd} {w : World} (k : IsR7 R n K F L h w) (hn : n ≤ 512) (hg : h.gen ≤ 1000) (root : Int) (b : Option Addr) (cap : Nat) (l : List Int) (hi : IntsIn A w b l) (hgood : goodH (nextH h root) = false) :
    Calls Tryz.prog 16 #[.pointer (some ⟨R.u, 0, none⟩), .int .i64 root, .slice b l.length cap] w fun e w' => e = .returned (.tuple #[headV (nextH h root), .bool (may7 h n K F root l)]) ∧ KeptIn (· < w.heap.size) w w' := by
  have HGOOD := Lib.hid hgood
  clear hgood
  obtain ⟨mb, hmb⟩ : ∃ mb, may7 h n K F root l = mb := ⟨_, rfl⟩
  rw [hmb]
  obtain ⟨B, hB⟩ : ∃ B, w.heap.size = B := ⟨_, rfl⟩
  obtain ⟨ll, hll⟩ : ∃ ll, l.length = ll := ⟨_, rfl⟩
  have hlm : (ll : Int) ≤ 9223372036854775807 := by have := hi.len; unfold maxLen at this; omega
  have hm : (n : Int) ≤ 512 := by omega
  obtain ⟨W0, hW0⟩ : ∃ W0, w.alloc (.cells #[.int .u64 0, .int .i64 0, .int .i64 0, .int .i64 0, .int .i64 0] 39) = W0 := ⟨_, rfl⟩
  have k0 : KeptIn (· < w.heap.size) w W0 := by rw [← hW0]; exact (KeptIn.refl _ w).alloc (fun _ h => h) _
  have hs := k.old k0
  have c4 := hs.c4; have c5 := hs.c5; have c6 := hs.c6; have c7 := hs.c7; have c8 := hs.c8
  have hr0 : BoxH B noH W0 := by rw [← hW0, ← hB]; exact heap_alloc_new w _
  have hsz : W0.heap.size = B + 1 := by rw [← hW0, World.size_alloc, hB]
  obtain ⟨G0, r0, S, T, C⟩ := h
  obtain ⟨G, hG⟩ : ∃ G, G0 + 1 = G := ⟨_, rfl⟩
  have hG2 : IntKind.u64.wrap ((G0 : Int) + 1) = (G : Int) := by rw [IntKind.wrap_u64]; simp only at hg; omega
  have hG3 : ((G0 : Int) + 1) % 18446744073709551616 = (G : Int) := by simp only at hg; omega
  have hnext : nextH ⟨G0, r0, S, T, C⟩ root = ⟨G, root, S, T, C⟩ := by rw [← hG]; rfl
  rw [hnext]
  have HST : Hid (∀ V, KeptIn (· < B) w V → IsR7 R n K F L ⟨G0, r0, S, T, C⟩ V ∧ IntsIn A V b l) := Lib.hid fun V hV => ⟨k.old (by rw [hB]; exact hV), hi.old (by rw [hB]; exact hV)⟩
  have HMB := Lib.hid hmb; have HB := Lib.hid hB; have HW0 := Lib.hid hW0; have HLL := Lib.hid hll; have HNX := Lib.hid (And.intro hnext hG)
  have HK0 := Lib.hid k0; have HR0 := Lib.hid hr0; have HSZ := Lib.hid hsz
  rw [hll]
  unfold headV
  clear hB hmb hll hW0 k k0 hs hi hn hg hnext hG hsz
  simp only at c4 c5 c6 c7 c8
  go_enter Tryz.func16, Tryz.ntmps16
  go_upto_region 1 with fail
  rw [HW0.out, HB.out]
  go_upto_region 2 with fail
  have hb1 : BoxH (B + 1) ⟨G0, r0, S, T, C⟩ (W0.alloc (.cells #[.int .u64 (G0 : Int), .int .i64 r0, .int .i64 S, .int .i64 T, .int .i64 C] 39)) := by
    have := BoxH.new W0 ⟨G0, r0, S, T, C⟩
    rwa [HSZ.out] at this
  have hk1 : KeptIn (· < W0.heap.size) W0 (W0.alloc (.cells #[.int .u64 (G0 : Int), .int .i64 r0, .int .i64 S, .int .i64 T, .int .i64 C] 39)) := (KeptIn.refl _ W0).alloc (fun _ h => h) _
  rw [HSZ.out]
  obtain ⟨W1, hW1⟩ : ∃ W1, W0.alloc (.cells #[.int .u64 (G0 : Int), .int .i64 r0, .int .i64 S, .int .i64 T, .int .i64 C] 39) = W1 := ⟨_, rfl⟩
  rw [hW1] at hb1 hk1 ⊢
  have b0 := hb1.c0; have b1 := hb1.c1; have f0 := hb1.fz 0; have f1 := hb1.fz 1
  simp only at b0 b1
  have hb2 : BoxH (B + 1) ⟨G, root, S, T, C⟩ ((W1.setCell ⟨B + 1, 0, none⟩ (.int .u64 (G : Int))).setCell ⟨B + 1, 1, none⟩ (.int .i64 root)) := (hb1.set0 G).set1 root
  have hkk : KeptIn (· < B + 1) W0 ((W1.setCell ⟨B + 1, 0, none⟩ (.int .u64 (G : Int))).setCell ⟨B + 1, 1, none⟩ (.int .i64 root)) := ((hk1.mono fun k hk => by rw [HSZ.out]; exact hk).setCell (p := ⟨B + 1, 0, none⟩) (by simp) _).setCell (p := ⟨B + 1, 1, none⟩) (by simp) _
  obtain ⟨W2, hW2⟩ : ∃ W2, (W1.setCell ⟨B + 1, 0, none⟩ (.int .u64 (G : Int))).setCell ⟨B + 1, 1, none⟩ (.int .i64 root) = W2 := ⟨_, rfl⟩
  rw [hW2] at hb2 hkk
  have HW2 := Lib.hid hW2
  have H0 : Hid (Nx7 w B ⟨G, root, S, T, C⟩ W2 ∧ ∀ i, i < 0 → used7 n K F (l.getD i 0) = true) := Lib.hid ⟨⟨by have := HK0.out; rw [HB.out] at this; exact this.trans (hkk.mono fun k hk => by show k < B + 1; omega), HR0.out.kept hkk (Nat.lt_succ_self B), hb2⟩, fun i hi => absurd hi (by omega)⟩
  clear hb1 hk1 hW1 hb2 hkk hW2 HK0 HR0 HSZ HW0 c4 c5 c6 c7 c8
  go_upto_region 4 with fail
  rw [HW2.out]
  clear HW2 b0 b1 f0 f1 hG2 hG3
  go_wp2_with fail
  go_loopw [9] (fun c wr => ∃ (j : Nat) (V : World), V = wr ∧ j ≤ ll ∧ c = .int .i64 j ∧ Hid (Nx7 w B ⟨G, root, S, T, C⟩ V ∧ ∀ i, i < j → used7 n K F (l.getD i 0) = true)) (fun c _ => ll - (RowKit.intOf c).toNat)
  case atStart => exact ⟨0, _, rfl, Nat.zero_le _, rfl, H0⟩
  case round =>
    obtain ⟨j, V, rfl, hj, rfl, HJ⟩ := hrel
    clear H0
    have d0 : (0 : Int) ≤ (j : Int) := by omega
    by_cases hlt : j < ll
    · have d1 : (j : Int) < (ll : Int) := by omega
      have hjl : j < l.length := by rw [HLL.out]; exact hlt
      obtain ⟨hs, hi⟩ := HST.out V HJ.out.1.kept
      obtain ⟨g, off, rfl, _, _, hc⟩ := hi.cells (by omega)
      have e1 := hc j hjl
      have c0 := hs.c0; have c1 := hs.c1; have c2 := hs.c2
      obtain ⟨y, hy⟩ : ∃ y, l.getD j 0 = y := ⟨_, rfl⟩
      rw [hy] at e1
      have HY := Lib.hid hy
      have HA : Hid (y ∈ l) := Lib.hid (by rw [← hy, List.getD_eq_getElem?_getD, List.getElem?_eq_getElem hjl]; exact List.getElem_mem hjl)
      clear hc hi hy
      by_cases hy1 : y < 1
      · have HU : Hid (used7 n K F y = false) := Lib.hid (by unfold used7; rw [decide_eq_false (by omega), Bool.false_and, Bool.false_and])
        have g1 : decide (y < 1) = true := decide_eq_true hy1
        clear hs
        have HM : Hid (mb = false) := Lib.hid (by
          rw [← HMB.out]
          unfold may7
          have : l.all (used7 n K F) = false := by
            rw [List.all_eq_false]
            exact ⟨y, HA.out, by rw [HU.out]; decide⟩
          rw [this, Bool.and_false, Bool.false_and])
        have HN := Lib.hid fun q => HJ.out.1.drewN q
        clear HJ HU HY HA HST hjl HMB
        go_wp2_with fail
        go_quiet (fail)
        have hn := HN.out nq
        obtain ⟨V1, hV1⟩ : ∃ V1, V.drewN nq = V1 := ⟨_, rfl⟩
        rw [hV1] at hn ⊢
        clear hV1 HN
        have b0 := hn.b.c0; have b1 := hn.b.c1; have b2 := hn.b.c2; have b3 := hn.b.c3; have b4 := hn.b.c4
        have r0 := hn.r.c0; have r1 := hn.r.c1; have r2 := hn.r.c2; have r3 := hn.r.c3; have r4 := hn.r.c4
        have f0 := hn.r.fz 0; have f1 := hn.r.fz 1; have f2 := hn.r.fz 2; have f3 := hn.r.fz 3; have f4 := hn.r.fz 4
        have hput := hn.r.put ⟨G, root, S, T, C⟩
        have HK9 := Lib.hid hn.kept
        simp only [noH] at r0 r1 r2 r3 r4
        have hkk := HK9.out.put (x := B) (Nat.lt_irrefl B) ⟨G, root, S, T, C⟩
        have HX := Lib.hid (And.intro hput hkk)
        clear hput hkk
        go_wp2_with fail
        try simp only [Exit.inBlock, Exit.then]
        refine bodyPost_ret (results_head rfl _ _ B ⟨G, root, S, T, C⟩ rfl HX.out.1) rfl ?_
        exact ⟨by rw [HM.out]; rfl, by rw [HB.out]; exact HX.out.2⟩
      · by_cases hyn : (n : Int) ≤ y
        · have HU : Hid (used7 n K F y = false) := Lib.hid (by unfold used7; rw [decide_eq_false (show ¬ y < (n : Int) by omega), Bool.and_false, Bool.false_and])
          have g1 : decide (y < 1) = false := decide_eq_false hy1
          have g2 : decide ((n : Int) ≤ y) = true := decide_eq_true hyn
          clear hs
          have HM : Hid (mb = false) := Lib.hid (by
            rw [← HMB.out]
            unfold may7
            have : l.all (used7 n K F) = false := by
              rw [List.all_eq_false]
              exact ⟨y, HA.out, by rw [HU.out]; decide⟩
            rw [this, Bool.and_false, Bool.false_and])
          have HN := Lib.hid fun q => HJ.out.1.drewN q
          clear HJ HU HY HA HST hjl HMB
          go_wp2_with fail
          go_quiet (fail)
          have hn := HN.out nq
          obtain ⟨V1, hV1⟩ : ∃ V1, V.drewN nq = V1 := ⟨_, rfl⟩
          rw [hV1] at hn ⊢
          clear hV1 HN
          have b0 := hn.b.c0; have b1 := hn.b.c1; have b2 := hn.b.c2; have b3 := hn.b.c3; have b4 := hn.b.c4
          have r0 := hn.r.c0; have r1 := hn.r.c1; have r2 := hn.r.c2; have r3 := hn.r.c3; have r4 := hn.r.c4
          have f0 := hn.r.fz 0; have f1 := hn.r.fz 1; have f2 := hn.r.fz 2; have f3 := hn.r.fz 3; have f4 := hn.r.fz 4
          have hput := hn.r.put ⟨G, root, S, T, C⟩
          have HK9 := Lib.hid hn.kept
          simp only [noH] at r0 r1 r2 r3 r4
          have hkk := HK9.out.put (x := B) (Nat.lt_irrefl B) ⟨G, root, S, T, C⟩
          have HX := Lib.hid (And.intro hput hkk)
          clear hput hkk
          go_wp2_with fail
          try simp only [Exit.inBlock, Exit.then]
          refine bodyPost_ret (results_head rfl _ _ B ⟨G, root, S, T, C⟩ rfl HX.out.1) rfl ?_
          exact ⟨by rw [HM.out]; rfl, by rw [HB.out]; exact HX.out.2⟩
        · obtain ⟨q, rfl⟩ : ∃ q : Nat, y = (q : Int) := ⟨y.toNat, by omega⟩
          have hqn : q < n := by omega
          have x0 : (0 : Int) ≤ (q : Int) := by omega
          have x1 : (q : Int) < (n : Int) := by omega
          have g1 : decide ((q : Int) < 1) = false := decide_eq_false hy1
          have g2 : decide ((n : Int) ≤ (q : Int)) = false := decide_eq_false hyn
          have g3 : decide (q < 1) = false := decide_eq_false (by omega)
          have g4 : decide (n ≤ q) = false := decide_eq_false (by omega)
          have e2 := hs.af q hqn
          have e3 := hs.ak q hqn
          have hu : used7 n K F (q : Int) = (F q || K q) := by
            unfold used7
            rw [decide_eq_true (by omega), decide_eq_true x1, Int.toNat_natCast]
            rfl
          obtain ⟨fq, hfq⟩ : ∃ fq, F q = fq := ⟨_, rfl⟩
          obtain ⟨kq, hkq⟩ : ∃ kq, K q = kq := ⟨_, rfl⟩
          rw [hfq] at e2 hu
          rw [hkq] at e3 hu
          clear hfq hkq hs hy1 hyn hqn
          cases fq with
          | true =>
            have HU : Hid (used7 n K F (q : Int) = true) := Lib.hid hu
            clear hu
            have HJ2 : Hid (∀ i, i < j + 1 → used7 n K F (l.getD i 0) = true) := Lib.hid fun i hi => by
              rcases Nat.lt_or_ge i j with h9 | h9
              · exact HJ.out.2 i h9
              · obtain rfl : i = j := by omega
                rw [HY.out]
                exact HU.out
            have HN := Lib.hid fun q => HJ.out.1.drewN q
            clear HJ HU HY HA HST hjl
            go_wp2_with fail
            go_quiet (fail)
            go_wp2_with fail
            go_roundw
            case rel => exact ⟨j + 1, _, rfl, by omega, by go_num, Lib.hid ⟨HN.out _, HJ2.out⟩⟩
            case measure => simp [RowKit.intOf]; omega
          | false =>
            cases kq with
            | true =>
              have HU : Hid (used7 n K F (q : Int) = true) := Lib.hid hu
              clear hu
              have HJ2 : Hid (∀ i, i < j + 1 → used7 n K F (l.getD i 0) = true) := Lib.hid fun i hi => by
                rcases Nat.lt_or_ge i j with h9 | h9
                · exact HJ.out.2 i h9
                · obtain rfl : i = j := by omega
                  rw [HY.out]
                  exact HU.out
              have HN := Lib.hid fun q => HJ.out.1.drewN q
              clear HJ HU HY HA HST hjl
              go_wp2_with fail
              go_quiet (fail)
              go_wp2_with fail
              go_roundw
              case rel => exact ⟨j + 1, _, rfl, by omega, by go_num, Lib.hid ⟨HN.out _, HJ2.out⟩⟩
              case measure => simp [RowKit.intOf]; omega
            | false =>
              have HU : Hid (used7 n K F (q : Int) = false) := Lib.hid hu
              clear hu
              have HM : Hid (mb = false) := Lib.hid (by
                rw [← HMB.out]
                unfold may7
                have : l.all (used7 n K F) = false := by
                  rw [List.all_eq_false]
                  exact ⟨(q : Int), HA.out, by rw [HU.out]; decide⟩
                rw [this, Bool.and_false, Bool.false_and])
              have HN := Lib.hid fun q => HJ.out.1.drewN q
              clear HJ HU HY HA HST hjl HMB
              go_wp2_with fail
              go_quiet (fail)
              have hn := HN.out nq
              obtain ⟨V1, hV1⟩ : ∃ V1, V.drewN nq = V1 := ⟨_, rfl⟩
              rw [hV1] at hn ⊢
              clear hV1 HN
              have b0 := hn.b.c0; have b1 := hn.b.c1; have b2 := hn.b.c2; have b3 := hn.b.c3; have b4 := hn.b.c4
              have r0 := hn.r.c0; have r1 := hn.r.c1; have r2 := hn.r.c2; have r3 := hn.r.c3; have r4 := hn.r.c4
              have f0 := hn.r.fz 0; have f1 := hn.r.fz 1; have f2 := hn.r.fz 2; have f3 := hn.r.fz 3; have f4 := hn.r.fz 4
              have hput := hn.r.put ⟨G, root, S, T, C⟩
              have HK9 := Lib.hid hn.kept
              simp only [noH] at r0 r1 r2 r3 r4
              have hkk := HK9.out.put (x := B) (Nat.lt_irrefl B) ⟨G, root, S, T, C⟩
              have HX := Lib.hid (And.intro hput hkk)
              clear hput hkk
              go_wp2_with fail
              try simp only [Exit.inBlock, Exit.then]
              refine bodyPost_ret (results_head rfl _ _ B ⟨G, root, S, T, C⟩ rfl HX.out.1) rfl ?_
              exact ⟨by rw [HM.out]; rfl, by rw [HB.out]; exact HX.out.2⟩
    · have d1 : (ll : Int) ≤ (j : Int) := by omega
      obtain rfl : j = ll := by omega
      have hall : l.all (used7 n K F) = true := by
        rw [List.all_eq_true]
        intro x hx
        obtain ⟨i, hi, rfl⟩ := List.getElem_of_mem hx
        have := HJ.out.2 i (by rw [HLL.out] at hi; exact hi)
        rwa [List.getD_eq_getElem?_getD, List.getElem?_eq_getElem hi] at this
      have hmb : (goodH ⟨G, root, S, T, C⟩ && decide (root = 0 ∨ root ∈ l)) = mb := by
        rw [← HMB.out, ← HNX.out.1]
        unfold may7
        rw [hall, Bool.and_true]
      have CG := fun V => r6Good ⟨G, root, S, T, C⟩ V
      have hkk := HJ.out.1.kept
      have hVB : B ≤ V.heap.size := Nat.le_of_lt (Nat.lt_of_succ_lt HJ.out.1.b.lt)
      have CI : ∀ V', KeptIn (· < V.heap.size) V V' → Calls Tryz.prog 44 #[.slice b l.length cap, .int .i64 root] V' fun e w' => e = .returned (.bool (decide (root ∈ l))) ∧ V' = w' := fun V' hV' => r7in A root b cap l V' (HST.out V' (hkk.trans (hV'.mono fun k hk => Nat.lt_of_lt_of_le hk hVB))).2
      have hBX : ∀ V', KeptIn (fun k => k < V.heap.size ∧ k ≠ B) V V' → V'.cell? ⟨B + 1, 0, none⟩ = some (.int .u64 (G : Int)) ∧ V'.cell? ⟨B + 1, 1, none⟩ = some (.int .i64 root) ∧ V'.cell? ⟨B + 1, 2, none⟩ = some (.int .i64 S) ∧ V'.cell? ⟨B + 1, 3, none⟩ = some (.int .i64 T) ∧ V'.cell? ⟨B + 1, 4, none⟩ = some (.int .i64 C) := fun V' hV' => by
        have hb := HJ.out.1.b.kept hV' ⟨HJ.out.1.b.lt, by omega⟩
        exact ⟨hb.c0, hb.c1, hb.c2, hb.c3, hb.c4⟩
      have hRX : ∀ V', KeptIn (· < V.heap.size) V V' → BoxH B noH V' ∧ KeptIn (· < B) w V' := fun V' hV' => ⟨HJ.out.1.r.kept hV' HJ.out.1.r.lt, hkk.trans (hV'.mono fun k hk => Nat.lt_of_lt_of_le hk hVB)⟩
      obtain ⟨gd, hgd⟩ : ∃ gd, goodH ⟨G, root, S, T, C⟩ = gd := ⟨_, rfl⟩
      have HGD := Lib.hid hgd
      obtain ⟨il, hil⟩ : ∃ il, decide (root ∈ l) = il := ⟨_, rfl⟩
      have hmb2 : (gd && (decide (root = 0) || il)) = mb := by rw [← hmb, hgd, ← hil, Bool.decide_or]
      simp only [hil, HLL.out] at CI
      simp only [hgd] at CG
      unfold headV at CG
      simp only at CG
      have HBX := Lib.hid hBX; have HRX := Lib.hid hRX; have HCG := Lib.hid CG; have HCI := Lib.hid CI; have HM := Lib.hid hmb2
      obtain ⟨b0, b1, b2, b3, b4⟩ := HBX.out V (KeptIn.refl _ _)
      clear hBX hRX CG CI hmb2 hmb hall hgd hil hkk hVB HJ HST HMB
      obtain ⟨⟨z0, z1, z2, z3, z4⟩, z5, z6, z7, z8, z9⟩ := (HRX.out V (KeptIn.refl _ _)).1.zero
      go_upto_region 9 with fail
      go_cut [7] from 69 to 80 (fun b wx => b = .bool mb ∧ Hid (BoxH B ⟨G, root, S, T, C⟩ wx ∧ KeptIn (· < B) w wx))
      case first =>
        obtain rfl : gd = false := by rw [← HGD.out]; have h9 := HGOOD.out; rw [HNX.out.1] at h9; exact h9
        as_aux_lemma =>
          first
            | go_region_law (first
              | (go_simp; go_at_call 32; refine (HCG.out _).mono ?_; rintro e V5 ⟨rfl, k5⟩; have k6 : KeptIn (· < V.heap.size) V V5 := (KeptIn.refl _ V).drew.trans (k5.mono fun k hk => hk); clear k5 b0 b1 b2 b3 b4 z0 z1 z2 z3 z4 z5 z6 z7 z8 z9; have hr6 := (HRX.out V5 k6).1; have hk6 := (HRX.out V5 k6).2; obtain ⟨b0, b1, b2, b3, b4⟩ := HBX.out V5 (k6.mono fun k hk => hk.1); obtain ⟨⟨z0, z1, z2, z3, z4⟩, z5, z6, z7, z8, z9⟩ := hr6.zero)
              | (go_simp; go_at_call 44; refine (HCI.out _ (by first | exact k6 | exact k6.drew)).mono ?_; rintro e w' ⟨rfl, rfl⟩))
            | fail
          all_goals
            have HF1 := Lib.hid (And.intro (hr6.put ⟨G, root, S, T, C⟩) (hk6.put (Nat.lt_irrefl B) ⟨G, root, S, T, C⟩))
            clear b0 b1 b2 b3 b4 z0 z1 z2 z3 z4 z5 z6 z7 z8 z9 hr6 hk6 k6 HBX HRX HCG HCI d0 d1 hlm
            go_wp2_with fail
            go_meet
            case rel => exact ⟨by rw [← HM.out]; rfl, Lib.hid ⟨HF1.out.1, by first | exact HF1.out.2.drew | exact HF1.out.2⟩⟩
      case rest =>
        obtain ⟨rfl, HX⟩ := hcut
        clear HM HCG HCI HBX HRX b0 b1 b2 b3 b4 z0 z1 z2 z3 z4 z5 z6 z7 z8 z9
        go_wp2_with fail
        try simp only [Exit.inBlock, Exit.then]
        refine bodyPost_ret (results_head rfl _ _ B ⟨G, root, S, T, C⟩ rfl HX.out.1) rfl ?_
        exact ⟨rfl, by rw [HB.out]; exact HX.out.2⟩

end Go.Proofs.YtkgjmejgkffbdaaGreatDoor
