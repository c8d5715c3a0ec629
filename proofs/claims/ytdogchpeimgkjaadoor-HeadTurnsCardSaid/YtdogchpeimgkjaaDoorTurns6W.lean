/- tiercelaw06.HeadTurns: it answers true whatever the input; what was there stands. -/
import Derived.Test.YtdogchpeimgkjaaDoorSeq6
set_option linter.unusedVariables false
namespace Go.Proofs.YtdogchpeimgkjaaDoor
open Go.RowKit

attribute [local go_sem] eqTwo

/-- The variables of the walk: the head's box at x, the two sectors at t. -/
structure At6 (w : World) (x t gx : Nat) (r s f c : Int) (a b : List UInt8) (V : World) : Prop where
  box : BoxH x ⟨gx, r, s, f, c⟩ V
  two : TwoS t a b V
  kept : KeptIn (· < w.heap.size) w V
  hx : w.heap.size ≤ x
  xt : x < t
section
variable {w V V' : World} {x t gx : Nat} {r s f c : Int} {a b : List UInt8}
theorem At6.old (h : At6 w x t gx r s f c a b V) (k : KeptIn (· < V.heap.size) V V') : At6 w x t gx r s f c a b V' :=
  ⟨h.box.kept k h.box.lt, h.two.kept k h.two.lt, h.kept.step k, h.hx, h.xt⟩
theorem At6.setG (h : At6 w x t gx r s f c a b V) (g : Nat) : At6 w x t g r s f c a b (V.setCell ⟨x, 0, none⟩ (.int .u64 g)) :=
  ⟨h.box.set0 g, (heap_setCell_other _ _ _ _ (by have := h.xt; simp; omega)).trans h.two, h.kept.setCell (p := ⟨x, 0, none⟩) (by have := h.hx; simp; omega) _, h.hx, h.xt⟩
theorem At6.set0 (h : At6 w x t gx r s f c a b V) (u : List UInt8) : At6 w x t gx r s f c u b (V.setCell ⟨t, 0, none⟩ (.string ⟨u.toArray⟩)) :=
  ⟨(heap_setCell_other _ _ _ _ (by have := h.xt; simp; omega)).trans h.box, h.two.set0 u, h.kept.setCell (p := ⟨t, 0, none⟩) (by have := h.hx; have := h.xt; simp; omega) _, h.hx, h.xt⟩
theorem At6.set1 (h : At6 w x t gx r s f c a b V) (u : List UInt8) : At6 w x t gx r s f c a u (V.setCell ⟨t, 1, none⟩ (.string ⟨u.toArray⟩)) :=
  ⟨(heap_setCell_other _ _ _ _ (by have := h.xt; simp; omega)).trans h.box, h.two.set1 u, h.kept.setCell (p := ⟨t, 1, none⟩) (by have := h.hx; have := h.xt; simp; omega) _, h.hx, h.xt⟩
theorem At6.elsewhere (h : At6 w x t gx r s f c a b V) (p : Addr) (hx : p.block ≠ x) (ht : p.block ≠ t) (hw : w.heap.size ≤ p.block) (v : Value) : At6 w x t gx r s f c a b (V.setCell p v) :=
  ⟨(heap_setCell_other _ _ _ _ (fun e => hx e.symm)).trans h.box, (heap_setCell_other _ _ _ _ (fun e => ht e.symm)).trans h.two, h.kept.setCell (by omega) _, h.hx, h.xt⟩
theorem At6.drew (h : At6 w x t gx r s f c a b V) : At6 w x t gx r s f c a b V.drew := h.old ((KeptIn.refl _ _).drew)
theorem At6.cells (h : At6 w x t gx r s f c a b V) : (V.cell? ⟨x, 0, none⟩ = some (.int .u64 gx) ∧ V.cell? ⟨x, 1, none⟩ = some (.int .i64 r) ∧ V.cell? ⟨x, 2, none⟩ = some (.int .i64 s) ∧ V.cell? ⟨x, 3, none⟩ = some (.int .i64 f) ∧ V.cell? ⟨x, 4, none⟩ = some (.int .i64 c)) ∧
    V.cell? ⟨t, 0, none⟩ = some (.string ⟨a.toArray⟩) ∧ V.cell? ⟨t, 1, none⟩ = some (.string ⟨b.toArray⟩) :=
  ⟨⟨h.box.c0, h.box.c1, h.box.c2, h.box.c3, h.box.c4⟩, h.two.c0, h.two.c1⟩
end

set_option maxHeartbeats 4000000 in
set_option maxRecDepth 100000 in
theorem headTurnsW (g : Nat) (r s f c : Int) (n at_ mk : Int) (w : World) (wn : (Lit.int .i64 n).wf = true) (wa : (Lit.int .i64 at_).wf = true) (wm : (Lit.int .u32 mk).wf = true) (hT : Tab w) :
    Calls Tryd.prog 5 #[headV ⟨g, r, s, f, c⟩, .int .i64 n, .int .i64 at_, .int .u32 mk] w fun e w' => e = .returned (.bool true) ∧ KeptIn (· < w.heap.size) w w' := by
  have bm := bounds_u32 wm
  obtain ⟨mm, rfl⟩ := Int.eq_ofNat_of_zero_le bm.1
  have m0 : (0 : Int) ≤ (mm : Int) := by omega
  have m1 : (mm : Int) ≤ 4294967295 := by omega
  obtain ⟨kn, hkn, hkk⟩ := modWalk n 99 (by decide) (by decide)
  have hkk' : wrap64 ((IntKind.u64.wrap n).tmod 99) = (kn : Int) := hkk
  obtain ⟨m, hm13, hmm⟩ := modWalk at_ 13 (by decide) (by decide)
  have hmm' : wrap64 ((IntKind.u64.wrap at_).tmod 13) = (m : Int) := hmm
  clear wn wa wm bm hkk hmm
  obtain ⟨x, hx⟩ : ∃ x, w.heap.size = x := ⟨_, rfl⟩
  obtain ⟨W1, hW1⟩ : ∃ W1, w.alloc (.cells #[.int .u64 g, .int .i64 r, .int .i64 s, .int .i64 f, .int .i64 c] 25) = W1 := ⟨_, rfl⟩
  have hk1 : KeptIn (· < w.heap.size) w W1 := by rw [← hW1]; exact (KeptIn.refl _ w).alloc (fun _ h => h) _
  have hb1 : BoxH x ⟨g, r, s, f, c⟩ W1 := by rw [← hW1, ← hx]; exact BoxH.new w ⟨g, r, s, f, c⟩
  have CA := Lib.hid (awake6 W1 (hT.old hk1))
  obtain ⟨k, hk⟩ : ∃ k, kn + 2 = k := ⟨_, rfl⟩
  have hk2 : (2 : Int) + (kn : Int) = (k : Int) := by omega
  have hk3 : (k : Int) ≤ 100 := by omega
  have hk4 : (2 : Int) ≤ (k : Int) := by omega
  have HT := Lib.hid hT
  have H1 := Lib.hid (And.intro hb1 hk1)
  have HW1 := Lib.hid (And.intro hW1 hx)
  have hk5 : wrap64 (2 + wrap64 ((IntKind.u64.wrap n).tmod 99)) = (k : Int) := by rw [hkk']; unfold wrap64; omega
  have HKK := Lib.hid (And.intro hk5 (And.intro hm13 hmm'))
  clear hT hk1 hb1 hW1 hx hkk' hk2 hm13 hmm' hk hk5 hkn
  unfold headV
  simp only
  go_enter Tryd.func5, Tryd.ntmps5
  go_wp2_with (go_at_call 6; rw [HW1.out.1, HW1.out.2]; refine CA.out.mono ?_; clear CA; rintro e V1 ⟨rfl, kv⟩)
  rw [HKK.out.1]
  obtain ⟨t, ht⟩ : ∃ t, V1.heap.size = t := ⟨_, rfl⟩
  obtain ⟨W2, hW2⟩ : ∃ W2, V1.alloc (.cells #[.string ⟨#[]⟩, .string ⟨#[]⟩] 45) = W2 := ⟨_, rfl⟩
  have h2 : At6 w x t g r s f c [] [] W2 := by
    rw [← hW2]
    have hb := H1.out.1.kept kv H1.out.1.lt
    refine ⟨hb.kept ((KeptIn.refl (· < V1.heap.size) V1).alloc (fun _ h => h) _) hb.lt, ?_, (H1.out.2.step kv).alloc (fun _ h => h) _, by rw [HW1.out.2]; exact Nat.le_refl _, by rw [← ht]; exact hb.lt⟩
    rw [← ht]
    exact heap_alloc_new V1 _
  rw [hW2, ht]
  have H2 := Lib.hid h2
  clear h2 hW2 ht kv H1
  cases hgd : goodH ⟨1, r, s, f, c⟩ with
  | false =>
    have HB0 : ∀ V, Calls Tryd.prog 7 #[.agg #[.int .u64 1, .int .i64 r, .int .i64 s, .int .i64 f, .int .i64 c]] V fun e w' => e = .returned (.tuple #[.string ⟨#[]⟩, .int .i64 1]) ∧ KeptIn (· < V.heap.size) V w' := fun V => hdBytesBad ⟨1, r, s, f, c⟩ hgd V
    have HBB := Lib.hid HB0
    clear HB0 hgd
    go_loopw [11] (fun cc V => cc = .int .i64 0 ∧ V = W2) (fun _ _ => 0)
    case atStart => exact ⟨rfl, rfl⟩
    case round =>
      obtain ⟨rfl, rfl⟩ := hrel
      obtain ⟨⟨c0, c1, c2, c3, c4⟩, _, _⟩ := H2.out.cells
      have f0 := H2.out.box.fz 0
      have h3 := H2.out.setG 1
      obtain ⟨⟨d0, d1, d2, d3, d4⟩, _, _⟩ := h3.cells
      rw [show ((1 : Nat) : Int) = 1 from rfl] at h3 d0 d1 d2 d3 d4
      have H3 := Lib.hid h3
      clear h3
      have k1 : (0 : Int) < (k : Int) := by omega
      go_wp2_with fail
      refine (HBB.out _).mono ?_
      rintro e V2 ⟨rfl, k2⟩
      clear c0 c1 c2 c3 c4 d0 d1 d2 d3 d4 f0
      go_wp2_with fail
      go_ret
      exact ⟨rfl, H3.out.kept.step k2⟩
  | true =>
    obtain ⟨hd, hhd⟩ : ∃ hd : Nat → Hd, ∀ j, hd j = ⟨j, r, s, f, c⟩ := ⟨fun j => ⟨j, r, s, f, c⟩, fun _ => rfl⟩
    have hgen : ∀ j, (hd j).gen = j := fun j => by rw [hhd]
    have hgood : ∀ j, 1 ≤ j → j ≤ 100 → goodH (hd j) = true := fun j h1 h2 => by
      rw [hhd]
      obtain ⟨_, _, a3, a4, a5, a6, a7, a8, a9, a10⟩ : Hd.can ⟨1, r, s, f, c⟩ := of_decide_eq_true hgd
      exact decide_eq_true ⟨h1, by show j ≤ 4294967295; omega, a3, a4, a5, a6, a7, a8, a9, a10⟩
    have HN := Lib.hid (new_cont hd hgen hgood)
    have HT0 := Lib.hid (new_torn0 hd hgood)
    have HT1 := Lib.hid (new_torn1 hd hgood)
    have HGD := Lib.hid (And.intro hhd hgood)
    have hbytes : ∀ j : Nat, 1 ≤ j → j ≤ 100 → ∀ V, Tab V → Calls Tryd.prog 7 #[.agg #[.int .u64 j, .int .i64 r, .int .i64 s, .int .i64 f, .int .i64 c]] V fun e w' => e = .returned (.tuple #[.string ⟨(bytesH (hd j)).toArray⟩, .int .i64 0]) ∧ KeptIn (· < V.heap.size) V w' := fun j h1 h2 V hTV => by
      have := hdBytesOk (hd j) (hgood j h1 h2) V hTV
      rw [hhd] at this ⊢
      exact this
    have HBY := Lib.hid hbytes
    clear hgd hgen hgood hhd hbytes
    have HJ0 : Hid (∃ gx, At6 w x t gx r s f c (cont hd 0 0) (cont hd 0 1) W2) := Lib.hid ⟨g, by rw [cont_zero, cont_zero]; exact H2.out⟩
    clear H2
    go_loopw [11] (fun cc V => ∃ (i : Nat) (V' : World), V' = V ∧ i ≤ k ∧ cc = .int .i64 i ∧ Hid (∃ gx, At6 w x t gx r s f c (cont hd i 0) (cont hd i 1) V)) (fun cc _ => k - (intOf cc).toNat)
    case atStart => exact ⟨0, _, rfl, Nat.zero_le _, rfl, HJ0⟩
    case round =>
      obtain ⟨i, V, rfl, hi, rfl, HV⟩ := hrel
      clear HJ0
      have d0i : (0 : Int) ≤ (i : Int) := by omega
      by_cases hlt : i < k
      · have d1i : (i : Int) < (k : Int) := by omega
        obtain ⟨gx, hv⟩ := HV.out
        obtain ⟨gi, hgi⟩ : ∃ gi, i + 1 = gi := ⟨_, rfl⟩
        have hgi' : (i : Int) + 1 = (gi : Int) := by omega
        have hw1 : wrap64 ((i : Int) + 1) = (gi : Int) := by unfold wrap64; omega
        have hg0 : (0 : Int) ≤ (gi : Int) := by omega
        have hg1 : (gi : Int) ≤ 100 := by omega
        have HI := Lib.hid (And.intro hgi hlt)
        have h3 := hv.setG gi
        obtain ⟨⟨c0, c1, c2, c3, c4⟩, _, _⟩ := hv.cells
        have f0 := hv.box.fz 0
        obtain ⟨⟨e0, e1, e2, e3, e4⟩, _, _⟩ := h3.cells
        obtain ⟨V3, hV3⟩ : ∃ V3, V.setCell ⟨x, 0, none⟩ (.int .u64 gi) = V3 := ⟨_, rfl⟩
        rw [hV3] at h3
        have HV3 := Lib.hid hV3
        have H3 := Lib.hid h3
        clear hv h3 hV3 hgi HV
        go_wp2_with fail
        rw [HV3.out]
        clear c0 c1 c2 c3 c4 e0 e1 e2 e3 e4 f0
        refine (HBY.out gi (by omega) (by omega) V3 (HT.out.old H3.out.kept)).mono ?_
        rintro e V4 ⟨rfl, k4⟩
        have h4 := H3.out.old k4
        have hS : ∀ z, i % 2 = z → cont hd gi z = bytesH (hd gi) := fun z hz => by rw [← HI.out.1]; exact cont_store hd i z hz
        have hO : ∀ z, z < 2 → i % 2 ≠ z → cont hd gi z = cont hd i z := fun z h1 h2 => by rw [← HI.out.1]; exact cont_other hd i z h1 h2
        have hNW : newH (cont hd gi 0) (cont hd gi 1) = (hd gi, ((i % 2 : Nat) : Int), true) := by
          have := HN.out i (by have := HI.out.1; omega)
          rwa [HI.out.1] at this
        rw [HGD.out.1] at hNW
        have hla := cont_length hd i 0
        have hlb := cont_length hd i 1
        have hls := bytesH_length (hd gi)
        obtain ⟨S, hSS⟩ : ∃ S, bytesH (hd gi) = S := ⟨_, rfl⟩
        obtain ⟨A, hA⟩ : ∃ A, cont hd i 0 = A := ⟨_, rfl⟩
        obtain ⟨B, hB⟩ : ∃ B, cont hd i 1 = B := ⟨_, rfl⟩
        rw [hSS] at hS hls ⊢
        rw [hA] at h4 hla
        rw [hB] at h4 hlb
        by_cases hpar : i % 2 = 0
        · have ht2 : (i : Int).tmod 2 = 0 := by rw [Int.tmod_eq_emod_of_nonneg d0i]; omega
          have e1 := hS 0 hpar
          have e2 := hO 1 (by decide) (by omega)
          rw [hB] at e2
          have hnew : newH S B = (⟨gi, r, s, f, c⟩, 0, true) := by rw [← e1, ← e2, hNW, hpar]; rfl
          have HCT : Hid (∀ {V}, At6 w x t gi r s f c S B V → At6 w x t gi r s f c (cont hd gi 0) (cont hd gi 1) V) := Lib.hid fun h => by rw [e1, e2]; exact h
          clear hS hO hNW hSS hA hB hpar e1 e2 k4 H3 HV3
          obtain ⟨⟨_, _, _, _, _⟩, t0, t1⟩ := h4.cells
          have ft := h4.two.fz 0
          have h5 := h4.set0 S
          obtain ⟨⟨_, _, _, _, _⟩, s0, s1⟩ := h5.cells
          have hn5 : newH S B = (⟨gi, r, s, f, c⟩, 0, true) := hnew
          have hT5 := HT.out.old h5.kept
          have CN := hdNewest S B _ hT5 (by omega) (by omega)
          rw [hn5] at CN
          simp only [if_true] at CN
          unfold NewH headV at CN
          simp only at CN
          obtain ⟨V5, hV5⟩ : ∃ V, V4.setCell ⟨t, 0, none⟩ (.string ⟨S.toArray⟩) = V := ⟨_, rfl⟩
          rw [hV5] at h5 CN
          have HCN := Lib.hid CN
          have H5 := Lib.hid h5
          have HV5 := Lib.hid hV5
          clear h4 h5 hn5 hT5 CN hV5 hnew
          go_wp2_with fail
          rw [HV5.out]
          clear t0 t1 ft s0 s1
          refine HCN.out.mono ?_
          rintro e V6 ⟨rfl, k6⟩
          have k7 : KeptIn (· < V5.heap.size) V5 (V6.alloc (.cells #[.int .u64 gi, .int .i64 r, .int .i64 s, .int .i64 f, .int .i64 c] 25)) := k6.alloc (fun _ h => h) _
          have h7 := H5.out.old k7
          obtain ⟨⟨c0, c1, c2, c3, c4⟩, _, _⟩ := h7.cells
          obtain ⟨V7, hV7⟩ : ∃ V, V6.alloc (.cells #[.int .u64 gi, .int .i64 r, .int .i64 s, .int .i64 f, .int .i64 c] 25) = V := ⟨_, rfl⟩
          rw [hV7] at h7
          have H7 := Lib.hid h7
          have HV7 := Lib.hid hV7
          clear h7 k7 k6 HCN H5 HV5 hV7
          go_wp2_with fail
          rw [HV7.out]
          go_roundw
          case rel => exact ⟨gi, _, rfl, by omega, by rfl, Lib.hid ⟨gi, HCT.out H7.out⟩⟩
          case measure => simp [intOf]; omega
        · have ht2 : (i : Int).tmod 2 = 1 := by rw [Int.tmod_eq_emod_of_nonneg d0i]; omega
          have h1 : i % 2 = 1 := by omega
          have e1 := hS 1 h1
          have e2 := hO 0 (by decide) (by omega)
          rw [hA] at e2
          have hnew : newH A S = (⟨gi, r, s, f, c⟩, 1, true) := by rw [← e1, ← e2, hNW, h1]; rfl
          have HCT : Hid (∀ {V}, At6 w x t gi r s f c A S V → At6 w x t gi r s f c (cont hd gi 0) (cont hd gi 1) V) := Lib.hid fun h => by rw [e1, e2]; exact h
          clear hS hO hNW hSS hA hB hpar e1 e2 h1 k4 H3 HV3
          obtain ⟨⟨_, _, _, _, _⟩, t0, t1⟩ := h4.cells
          have ft := h4.two.fz 1
          have h5 := h4.set1 S
          obtain ⟨⟨_, _, _, _, _⟩, s0, s1⟩ := h5.cells
          have hn5 : newH A S = (⟨gi, r, s, f, c⟩, 1, true) := hnew
          have hT5 := HT.out.old h5.kept
          have CN := hdNewest A S _ hT5 (by omega) (by omega)
          rw [hn5] at CN
          simp only [if_true] at CN
          unfold NewH headV at CN
          simp only at CN
          obtain ⟨V5, hV5⟩ : ∃ V, V4.setCell ⟨t, 1, none⟩ (.string ⟨S.toArray⟩) = V := ⟨_, rfl⟩
          rw [hV5] at h5 CN
          have HCN := Lib.hid CN
          have H5 := Lib.hid h5
          have HV5 := Lib.hid hV5
          clear h4 h5 hn5 hT5 CN hV5 hnew
          go_wp2_with fail
          rw [HV5.out]
          clear t0 t1 ft s0 s1
          refine HCN.out.mono ?_
          rintro e V6 ⟨rfl, k6⟩
          have k7 : KeptIn (· < V5.heap.size) V5 (V6.alloc (.cells #[.int .u64 gi, .int .i64 r, .int .i64 s, .int .i64 f, .int .i64 c] 25)) := k6.alloc (fun _ h => h) _
          have h7 := H5.out.old k7
          obtain ⟨⟨c0, c1, c2, c3, c4⟩, _, _⟩ := h7.cells
          obtain ⟨V7, hV7⟩ : ∃ V, V6.alloc (.cells #[.int .u64 gi, .int .i64 r, .int .i64 s, .int .i64 f, .int .i64 c] 25) = V := ⟨_, rfl⟩
          rw [hV7] at h7
          have H7 := Lib.hid h7
          have HV7 := Lib.hid hV7
          clear h7 k7 k6 HCN H5 HV5 hV7
          go_wp2_with fail
          rw [HV7.out]
          go_roundw
          case rel => exact ⟨gi, _, rfl, by omega, by rfl, Lib.hid ⟨gi, HCT.out H7.out⟩⟩
          case measure => simp [intOf]; omega
      · obtain rfl : i = k := by omega
        have d2i : ¬ (i : Int) < (i : Int) := by omega
        clear HN HBY hlt hi
        by_cases hm0 : mm = 0
        · subst hm0
          obtain ⟨gx, hv⟩ := HV.out
          have HF := Lib.hid hv.kept
          clear hv HV
          go_wp2_with fail
          go_ret
          exact ⟨rfl, HF.out⟩
        · have mz : ((mm : Int) == 0) = false := by rw [beq_eq_false_iff_ne]; omega
          obtain ⟨j1, hj1⟩ : ∃ j1, i - 1 = j1 := ⟨_, rfl⟩
          have j1i : (i : Int) - 1 = (j1 : Int) := by omega
          have j1w : wrap64 ((i : Int) - 1) = (j1 : Int) := by unfold wrap64; omega
          have j10 : (0 : Int) ≤ (j1 : Int) := by omega
          have j1b : (j1 : Int) ≤ 99 := by omega
          obtain ⟨j, hj⟩ : ∃ j, j + 2 = i := ⟨i - 2, by omega⟩
          have ej : j1 = j + 1 := by omega
          have hgdk := HGD.out.2 i (by omega) (by omega)
          obtain ⟨D, hD⟩ : ∃ D, bytesH (hd i) = D := ⟨_, rfl⟩
          have hDl := bytesH_length (hd i)
          have hUU := isH_turn (hd i) hgdk m mm (by have := HKK.out.2.1; omega) (by omega) hm0
          rw [hD] at hDl hUU
          obtain ⟨gx, hv⟩ := HV.out
          have HMK := Lib.hid HKK.out.2
          have hla := cont_length hd i 0
          have hlb := cont_length hd i 1
          have q0 := HT0.out j (by omega)
          have q1 := HT1.out j (by omega)
          rw [HGD.out.1, ← ej, hj] at q0 q1
          have r0 := fun h => cont_store hd (j + 1) 0 h
          have r1 := fun h => cont_store hd (j + 1) 1 h
          rw [show j + 1 + 1 = i from hj, hD] at r0 r1
          obtain ⟨A, hA⟩ : ∃ A, cont hd i 0 = A := ⟨_, rfl⟩
          obtain ⟨B, hB⟩ : ∃ B, cont hd i 1 = B := ⟨_, rfl⟩
          rw [hA] at hv hla q1 r0
          rw [hB] at hv hlb q0 r1
          by_cases hpar : (j + 1) % 2 = 0
          · have t2 : (j1 : Int).tmod 2 = 0 := by rw [Int.tmod_eq_emod_of_nonneg j10]; omega
            have t3 : (i : Int).tmod 2 = 1 := by rw [Int.tmod_eq_emod_of_nonneg d0i]; omega
            obtain rfl := (r0 hpar).symm
            have HTN : Hid (newH (turn D m mm 4) B = (⟨j1, r, s, f, c⟩, 1, true) ∧ B.length ≤ 16) := Lib.hid ⟨q0 (by omega) _ hUU, hlb⟩
            clear q0 q1 r0 r1 hUU hla hlb hA hB hD HT0 HT1 HGD hgdk HV hpar HKK hm0 hj ej hj1
            obtain ⟨⟨_, _, _, _, _⟩, t0, t1⟩ := hv.cells
            obtain ⟨capb, W8, hconv, hhas, hkc⟩ := conv_has D V
            rw [hDl] at hconv
            obtain ⟨gb, hgb⟩ : ∃ n, V.heap.size = n := ⟨_, rfl⟩
            rw [hgb] at hhas hconv
            have HGB : Hid (gb ≠ x ∧ gb ≠ t ∧ w.heap.size ≤ gb) := Lib.hid (by
              have a1 := hv.box.lt
              have a2 := hv.two.lt
              have a3 := hv.kept.size
              refine ⟨by omega, by omega, by omega⟩)
            have HH0 : Hid (Has W8 gb (turn D m mm 0) ∧ At6 w x t gx r s f c D B W8) := Lib.hid ⟨by rw [turn_zero]; exact hhas, hv.old hkc⟩
            have HDL := Lib.hid hDl
            clear hhas hkc hv hgb hDl
            go_wp2_with fail
            rw [HMK.out.2]
            clear t0 t1
            go_loopw [19] (fun cc V => ∃ (i : Nat) (V' : World), V' = V ∧ i ≤ 4 ∧ cc = .int .i64 i ∧ Hid (Has V gb (turn D m mm i) ∧ At6 w x t gx r s f c D B V)) (fun cc _ => 4 - (intOf cc).toNat)
            case atStart => exact ⟨0, _, rfl, by decide, rfl, HH0⟩
            case round =>
              obtain ⟨i, U, rfl, hi4, rfl, HU⟩ := hrel
              clear HH0 hconv
              by_cases hlt4 : i < 4
              · have hki : m + i < D.length := by have := HMK.out.1; have := HDL.out; omega
                have i0 : (0 : Int) ≤ (i : Int) := by omega
                have i1 : (i : Int) < 4 := by omega
                have i2 : (m : Int) + (i : Int) < 16 := by have := HMK.out.1; omega
                obtain ⟨pp, qq, hp, h0, h1⟩ := turn_split D m mm i hki
                have hh := HU.out.1
                rw [h0] at hh
                obtain ⟨hcell, hfz⟩ := hh pp.length D[m + i] (by simp)
                rw [hp] at hcell hfz
                have hset := hh.set (D[m + i] ^^^ UInt8.ofNat (mm / 2 ^ (8 * i)))
                rw [← h1, hp] at hset
                obtain ⟨z, hz⟩ : ∃ z : Nat, D[m + i].toNat = z := ⟨_, rfl⟩
                have hz8 : z < 256 := by rw [← hz]; exact D[m + i].toNat_lt
                rw [UInt8.toNat_xor, hz] at hset
                rw [hz] at hcell
                have hbyte : (UInt8.ofNat (mm / 2 ^ (8 * i))).toNat < 256 := UInt8.toNat_lt _
                have hbx := u8_xor_nat z (UInt8.ofNat (mm / 2 ^ (8 * i))).toNat hz8 hbyte
                have z0 : (0 : Int) ≤ (z : Int) := by omega
                have z1 : (z : Int) ≤ 255 := by omega
                have HS := Lib.hid hset; have HBXX := Lib.hid hbx
                clear hh h0 h1 hp hset hz hbyte hbx hz8
                go_wp2_with fail
                have hval : bits .xor .u8 (z : Int) ((mm : Int) / 2 ^ (8 * i) % 256) = ((z ^^^ (UInt8.ofNat (mm / 2 ^ (8 * i))).toNat : Nat) : Int) := by
                  have e : (((UInt8.ofNat (mm / 2 ^ (8 * i))).toNat : Nat) : Int) = (mm : Int) / 2 ^ (8 * i) % 256 := by rw [ofNat_byte]; simp
                  rw [← e]
                  exact HBXX.out
                have HVAL := Lib.hid hval
                clear hval
                go_region
                rw [HVAL.out]
                have S5 : Hid (Has (U.setCell ⟨gb, m + i, none⟩ (.int .u8 ((z ^^^ (UInt8.ofNat (mm / 2 ^ (8 * i))).toNat : Nat) : Int))).drew gb (turn D m mm (i + 1)) ∧ At6 w x t gx r s f c D B (U.setCell ⟨gb, m + i, none⟩ (.int .u8 ((z ^^^ (UInt8.ofNat (mm / 2 ^ (8 * i))).toNat : Nat) : Int))).drew) :=
                  Lib.hid ⟨HS.out, (HU.out.2.elsewhere ⟨gb, m + i, none⟩ HGB.out.1 HGB.out.2.1 HGB.out.2.2 _).drew⟩
                generalize (U.setCell ⟨gb, m + i, none⟩ (.int .u8 ((z ^^^ (UInt8.ofNat (mm / 2 ^ (8 * i))).toNat : Nat) : Int))).drew = U2 at *
                clear HS HVAL HBXX hcell hfz z0 z1
                go_wp2_with fail
                go_roundw
                case rel => exact ⟨i + 1, _, rfl, by omega, by go_num, S5⟩
                case measure => simp [intOf]; omega
              · obtain rfl : i = 4 := by omega
                have hul : (turn D m mm 4).length = 16 := by rw [← HDL.out]; exact turn_length D m mm (by have := HMK.out.1; have := HDL.out; omega) (by omega)
                have hback := conv_back _ gb capb U HU.out.1
                rw [hul] at hback
                obtain ⟨hnt, hlo⟩ := HTN.out
                obtain ⟨⟨_, _, _, _, _⟩, t0, t1⟩ := HU.out.2.cells
                have ft := HU.out.2.two.fz 0
                generalize turn D m mm 4 = T at *
                have h5 := HU.out.2.set0 T
                obtain ⟨⟨_, _, _, _, _⟩, s0, s1⟩ := h5.cells
                have CN := hdNewest T B _ (HT.out.old h5.kept) (by omega) (by omega)
                rw [hnt] at CN
                simp only [if_true] at CN
                unfold NewH headV at CN
                simp only at CN
                obtain ⟨V5, hV5⟩ : ∃ V, U.setCell ⟨t, 0, none⟩ (.string ⟨T.toArray⟩) = V := ⟨_, rfl⟩
                rw [hV5] at h5 CN
                have HCN := Lib.hid CN
                have H5 := Lib.hid h5
                have HV5 := Lib.hid hV5
                clear h5 CN hV5 hnt hul HTN
                go_wp2_with fail
                rw [HV5.out]
                clear t0 t1 ft s0 s1 hback
                refine HCN.out.mono ?_
                rintro e V6 ⟨rfl, k6⟩
                have HF := Lib.hid (H5.out.kept.step (k6.alloc (fun _ h => h) (.cells #[.int .u64 j1, .int .i64 r, .int .i64 s, .int .i64 f, .int .i64 c] 25)))
                clear k6 HCN H5 HV5
                go_wp2_with fail
                go_ret
                exact ⟨rfl, HF.out⟩
          · have h1 : (j + 1) % 2 = 1 := by omega
            have t2 : (j1 : Int).tmod 2 = 1 := by rw [Int.tmod_eq_emod_of_nonneg j10]; omega
            have t3 : (i : Int).tmod 2 = 0 := by rw [Int.tmod_eq_emod_of_nonneg d0i]; omega
            obtain rfl := (r1 h1).symm
            have HTN : Hid (newH A (turn D m mm 4) = (⟨j1, r, s, f, c⟩, 0, true) ∧ A.length ≤ 16) := Lib.hid ⟨q1 (by omega) _ hUU, hla⟩
            clear q0 q1 r0 r1 hUU hla hlb hA hB hD HT0 HT1 HGD hgdk HV hpar HKK hm0 hj ej hj1 h1
            obtain ⟨⟨_, _, _, _, _⟩, t0, t1⟩ := hv.cells
            obtain ⟨capb, W8, hconv, hhas, hkc⟩ := conv_has D V
            rw [hDl] at hconv
            obtain ⟨gb, hgb⟩ : ∃ n, V.heap.size = n := ⟨_, rfl⟩
            rw [hgb] at hhas hconv
            have HGB : Hid (gb ≠ x ∧ gb ≠ t ∧ w.heap.size ≤ gb) := Lib.hid (by
              have a1 := hv.box.lt
              have a2 := hv.two.lt
              have a3 := hv.kept.size
              refine ⟨by omega, by omega, by omega⟩)
            have HH0 : Hid (Has W8 gb (turn D m mm 0) ∧ At6 w x t gx r s f c A D W8) := Lib.hid ⟨by rw [turn_zero]; exact hhas, hv.old hkc⟩
            have HDL := Lib.hid hDl
            clear hhas hkc hv hgb hDl
            go_wp2_with fail
            rw [HMK.out.2]
            clear t0 t1
            go_loopw [19] (fun cc V => ∃ (i : Nat) (V' : World), V' = V ∧ i ≤ 4 ∧ cc = .int .i64 i ∧ Hid (Has V gb (turn D m mm i) ∧ At6 w x t gx r s f c A D V)) (fun cc _ => 4 - (intOf cc).toNat)
            case atStart => exact ⟨0, _, rfl, by decide, rfl, HH0⟩
            case round =>
              obtain ⟨i, U, rfl, hi4, rfl, HU⟩ := hrel
              clear HH0 hconv
              by_cases hlt4 : i < 4
              · have hki : m + i < D.length := by have := HMK.out.1; have := HDL.out; omega
                have i0 : (0 : Int) ≤ (i : Int) := by omega
                have i1 : (i : Int) < 4 := by omega
                have i2 : (m : Int) + (i : Int) < 16 := by have := HMK.out.1; omega
                obtain ⟨pp, qq, hp, h0, h1⟩ := turn_split D m mm i hki
                have hh := HU.out.1
                rw [h0] at hh
                obtain ⟨hcell, hfz⟩ := hh pp.length D[m + i] (by simp)
                rw [hp] at hcell hfz
                have hset := hh.set (D[m + i] ^^^ UInt8.ofNat (mm / 2 ^ (8 * i)))
                rw [← h1, hp] at hset
                obtain ⟨z, hz⟩ : ∃ z : Nat, D[m + i].toNat = z := ⟨_, rfl⟩
                have hz8 : z < 256 := by rw [← hz]; exact D[m + i].toNat_lt
                rw [UInt8.toNat_xor, hz] at hset
                rw [hz] at hcell
                have hbyte : (UInt8.ofNat (mm / 2 ^ (8 * i))).toNat < 256 := UInt8.toNat_lt _
                have hbx := u8_xor_nat z (UInt8.ofNat (mm / 2 ^ (8 * i))).toNat hz8 hbyte
                have z0 : (0 : Int) ≤ (z : Int) := by omega
                have z1 : (z : Int) ≤ 255 := by omega
                have HS := Lib.hid hset; have HBXX := Lib.hid hbx
                clear hh h0 h1 hp hset hz hbyte hbx hz8
                go_wp2_with fail
                have hval : bits .xor .u8 (z : Int) ((mm : Int) / 2 ^ (8 * i) % 256) = ((z ^^^ (UInt8.ofNat (mm / 2 ^ (8 * i))).toNat : Nat) : Int) := by
                  have e : (((UInt8.ofNat (mm / 2 ^ (8 * i))).toNat : Nat) : Int) = (mm : Int) / 2 ^ (8 * i) % 256 := by rw [ofNat_byte]; simp
                  rw [← e]
                  exact HBXX.out
                have HVAL := Lib.hid hval
                clear hval
                go_region
                rw [HVAL.out]
                have S5 : Hid (Has (U.setCell ⟨gb, m + i, none⟩ (.int .u8 ((z ^^^ (UInt8.ofNat (mm / 2 ^ (8 * i))).toNat : Nat) : Int))).drew gb (turn D m mm (i + 1)) ∧ At6 w x t gx r s f c A D (U.setCell ⟨gb, m + i, none⟩ (.int .u8 ((z ^^^ (UInt8.ofNat (mm / 2 ^ (8 * i))).toNat : Nat) : Int))).drew) :=
                  Lib.hid ⟨HS.out, (HU.out.2.elsewhere ⟨gb, m + i, none⟩ HGB.out.1 HGB.out.2.1 HGB.out.2.2 _).drew⟩
                generalize (U.setCell ⟨gb, m + i, none⟩ (.int .u8 ((z ^^^ (UInt8.ofNat (mm / 2 ^ (8 * i))).toNat : Nat) : Int))).drew = U2 at *
                clear HS HVAL HBXX hcell hfz z0 z1
                go_wp2_with fail
                go_roundw
                case rel => exact ⟨i + 1, _, rfl, by omega, by go_num, S5⟩
                case measure => simp [intOf]; omega
              · obtain rfl : i = 4 := by omega
                have hul : (turn D m mm 4).length = 16 := by rw [← HDL.out]; exact turn_length D m mm (by have := HMK.out.1; have := HDL.out; omega) (by omega)
                have hback := conv_back _ gb capb U HU.out.1
                rw [hul] at hback
                obtain ⟨hnt, hlo⟩ := HTN.out
                obtain ⟨⟨_, _, _, _, _⟩, t0, t1⟩ := HU.out.2.cells
                have ft := HU.out.2.two.fz 1
                generalize turn D m mm 4 = T at *
                have h5 := HU.out.2.set1 T
                obtain ⟨⟨_, _, _, _, _⟩, s0, s1⟩ := h5.cells
                have CN := hdNewest A T _ (HT.out.old h5.kept) (by omega) (by omega)
                rw [hnt] at CN
                simp only [if_true] at CN
                unfold NewH headV at CN
                simp only at CN
                obtain ⟨V5, hV5⟩ : ∃ V, U.setCell ⟨t, 1, none⟩ (.string ⟨T.toArray⟩) = V := ⟨_, rfl⟩
                rw [hV5] at h5 CN
                have HCN := Lib.hid CN
                have H5 := Lib.hid h5
                have HV5 := Lib.hid hV5
                clear h5 CN hV5 hnt hul HTN
                go_wp2_with fail
                rw [HV5.out]
                clear t0 t1 ft s0 s1 hback
                refine HCN.out.mono ?_
                rintro e V6 ⟨rfl, k6⟩
                have HF := Lib.hid (H5.out.kept.step (k6.alloc (fun _ h => h) (.cells #[.int .u64 j1, .int .i64 r, .int .i64 s, .int .i64 f, .int .i64 c] 25)))
                clear k6 HCN H5 HV5
                go_wp2_with fail
                go_ret
                exact ⟨rfl, HF.out⟩

theorem headTurnsR (g : Nat) (r s f c : Int) (n at_ mk : Int) (w : World) (_ : True) (wn : (Lit.int .i64 n).wf = true) (wa : (Lit.int .i64 at_).wf = true) (wm : (Lit.int .u32 mk).wf = true) (hT : Tab w) :
    Calls Tryd.prog 5 #[headV ⟨g, r, s, f, c⟩, .int .i64 n, .int .i64 at_, .int .u32 mk] w fun e w' => e = .returned (.bool true) ∧ KeptIn (· < w.heap.size) w w' := headTurnsW g r s f c n at_ mk w wn wa wm hT

end Go.Proofs.YtdogchpeimgkjaaDoor
