import Derived.Test.YtjollbaohopmjaaMm9W
/- Package reach's memo: Read of a node that it hasn't yet. -/
set_option linter.unusedVariables false
namespace Go.Proofs.Ytjollbaohopmjaa
open Go.RowKit

/-- What Read leaves, where memo hadn't the node: it is kept. -/
def MmN (w : World) (x c : Nat) (N : List Nd) (M : Int → Option (Option Lf9)) (p lv : Int) (ps : Pairs) (e : Ending) (w' : World) : Prop :=
  ∃ (g cap : Nat), e = .returned (.tuple #[leafV lv (some ⟨g, 0, none⟩) ps.length cap, .int .i64 0]) ∧ IsMm w' x (c + 1) N (mpPut M p (some (lv, g, ps.length, cap))) ∧ w.heap.size ≤ g ∧ KeptIn (fun j => j < w.heap.size ∧ j ≠ x) w w'

theorem IsMm.set {W : World} {x c b n cap : Nat} {N : List Nd} {M : Int → Option (Option Lf9)} {lv : Int} {a : Option Addr} (h : IsMm W x c N M) (hb : BoxL b lv a n cap W) (j : Nat) (v : Value) : IsMm (W.setCell ⟨b, j, none⟩ v) x c N M := by
  have hk : KeptIn (· ≠ b) W (W.setCell ⟨b, j, none⟩ v) := (KeptIn.refl _ W).setCell (p := ⟨b, j, none⟩) (by simp) _
  have hne : ∀ g, TyP W g → g ≠ b := fun g hg e => by
    obtain ⟨cs, fr, h1⟩ := hg
    rw [e, show W.heap[b]? = _ from hb] at h1
    simp only [Option.some.injEq, Obj.cells.injEq] at h1
    exact absurd h1.2.1 (by decide)
  refine ⟨h.map.kept hk (fun e => h.map.ne (show W.heap[b]? = _ from hb) e.symm), fun p z hz => ?_⟩
  obtain ⟨i, hi, g, cap', q1, q2, q3, q4⟩ := h.node p z hz
  have hg := hne g q4.1
  exact ⟨i, hi, g, cap', q1, q2, psSet q3 ⟨b, j, none⟩ v (fun q e => by cases e; exact hg), q4.set ⟨b, j, none⟩ v hg⟩

theorem mpPut_self {α : Type} (M : Int → Option α) (p : Int) (z : α) : mpPut M p z p = some z := by unfold mpPut; rw [if_pos rfl]

set_option maxHeartbeats 2000000 in
set_option maxRecDepth 100000 in
theorem mmReadNew {w : World} {s room x c : Nat} {N : List Nd} {D : Nat → Prop} {M : Int → Option (Option Lf9)} (h : IsMm w x c N M) (hS : IsSh w s room N D) (hc : c < 100000) (i : Nat) (hi : i < N.length) (hf : Fits N[i].2) (hz : M ((i + 1 : Nat) : Int) = none) :
    Calls Try.prog 111 #[mmV s x, .int .i64 ((i + 1 : Nat) : Int)] w (MmN w x c N M ((i + 1 : Nat) : Int) (N[i].1 : Int) N[i].2) := by
  have hpos := hS.pos i hi
  have hlen := hS.len
  obtain ⟨p, hp⟩ : ∃ p : Int, ((i + 1 : Nat) : Int) = p := ⟨_, rfl⟩
  have hpw : (Lit.int .i64 p).wf = true := by
    rw [← hp]
    simp [Lit.wf, IntKind.min, IntKind.max, IntKind.signed, IntKind.bits]
    omega
  obtain ⟨W, hW⟩ : ∃ W, (w.alloc (.cells #[pgV s, .map (some x)] 60)).alloc (.cells #[.int .i64 0, .slice none 0 0] 27) = W := ⟨_, rfl⟩
  have hk : KeptIn (· < w.heap.size) w W := by rw [← hW]; exact ((KeptIn.refl _ w).alloc (fun _ h => h) _).alloc (fun _ h => h) _
  rw [hp] at hz ⊢
  have hlk := ((h.old hk).map.look lfV9_inj Try.underlying58 none (zeroLeaf9 W) p hpw).1
  rw [hz] at hlk
  obtain ⟨B, hB⟩ : ∃ B, w.heap.size = B := ⟨_, rfl⟩
  have b0 : W.heap[B]? = some (.cells #[pgV s, .map (some x)] 60 (0, 0)) := by
    rw [← hW, ← hB, Lib.alloc_old _ _ _ (by simp)]
    exact heap_alloc_new w _
  have b1 : BoxL (B + 1) 0 none 0 0 W := by
    have := BoxL.new (w.alloc (.cells #[pgV s, .map (some x)] 60)) 0 none 0 0
    rw [World.size_alloc, hB, hW] at this
    exact this
  have c1 : W.cell? ⟨B, 1, none⟩ = some (.map (some x)) := by simp [World.cell?, b0]
  have hkX : KeptIn (· < W.heap.size) W (W.alloc (.cells #[.int .i64 0, .slice none 0 0] 27)) := (KeptIn.refl _ W).alloc (fun _ h => h) _
  have hbl := BoxL.new W 0 none 0 0
  obtain ⟨X, hX⟩ : ∃ X, W.alloc (.cells #[.int .i64 0, .slice none 0 0] 27) = X := ⟨_, rfl⟩
  obtain ⟨y, hy⟩ : ∃ y, W.heap.size = y := ⟨_, rfl⟩
  rw [hX] at hkX hbl
  rw [hy] at hbl
  have CR := shRead (hS.old (hk.trans (hkX.mono fun k h => Nat.lt_of_lt_of_le h hk.size))) i hi
  rw [hp] at CR
  obtain ⟨lv, hlv⟩ : ∃ lv : Int, (N[i].1 : Int) = lv := ⟨_, rfl⟩
  obtain ⟨ps, hps⟩ : ∃ ps, N[i].2 = ps := ⟨_, rfl⟩
  rw [hlv, hps] at CR ⊢
  rw [hps] at hpos hf
  have hBy : B + 1 < y := by rw [← hy]; exact b1.lt
  have hb0X := (hkX.block B (Array.getElem?_eq_some_iff.1 b0).1).trans b0
  have hb1X := b1.kept hkX b1.lt
  have HW := Lib.hid hW; have HK := Lib.hid hk; have HB := Lib.hid hB; have HX := Lib.hid hX; have HY := Lib.hid hy
  have HC := Lib.hid CR
  have HBX := Lib.hid (And.intro hb0X (And.intro hb1X (And.intro hbl (And.intro hkX hBy))))
  have HSP : Hid (∀ i (h : i < N.length), 0 < N[i].2.length) := Lib.hid fun i h => (hS.pos i h).1
  have HI := Lib.hid (And.intro h (And.intro hc (And.intro hi (And.intro hlv (And.intro hps (And.intro hp (And.intro hpw (And.intro hpos hf))))))))
  have q0 : X.cell? ⟨B, 0, none⟩ = some (pgV s) := by simp [World.cell?, hb0X]
  simp only [lfV9, Option.getD_none, Option.isSome_none] at hlk
  unfold leafV at hlk
  unfold pgV at *
  unfold mmV pgV
  clear h hz hk hW b0 b1 hB hX hy hkX hbl CR hlv hps hpos hf hb0X hb1X hS hp hpw hBy hlen
  go_enter Try.func111, Try.ntmps111
  go_upto_region 1 with fail
  rw [HW.out, HB.out]
  go_upto_region 2 with fail
  rw [HX.out, HY.out]
  clear c1 hlk
  go_wp2_with (go_at_call 11; refine HC.out.mono ?_)
  rintro e V hR
  obtain ⟨g0, cg, rfl, hpV, hg0, kV, _⟩ := hR
  have hb0V := (kV.block B (Array.getElem?_eq_some_iff.1 HBX.out.1).1).trans HBX.out.1
  have hb1V := HBX.out.2.1.kept kV HBX.out.2.1.lt
  have hblV := HBX.out.2.2.1.kept kV HBX.out.2.2.1.lt
  have hyX := HBX.out.2.2.1.lt
  have hgy : g0 ≠ y := by omega
  obtain ⟨m, hm⟩ : ∃ m, ps.length = m := ⟨_, rfl⟩
  unfold leafV
  rw [hm]
  have d0 := hblV.c0; have d1 := hblV.c1; have e0 := hblV.f0; have e1 := hblV.f1
  have hset1 := BoxL.set (lv' := lv) (a' := some ⟨g0, 0, none⟩) (n' := m) (cap' := cg) hblV
  have hps1 := psSet (psSet hpV ⟨y, 0, none⟩ (.int .i64 lv) (fun q h => by cases h; exact hgy)) ⟨y, 1, none⟩ (.slice (some ⟨g0, 0, none⟩) m cg) (fun q h => by cases h; exact hgy)
  have k1 : KeptIn (· ≠ y) V ((V.setCell ⟨y, 0, none⟩ (.int .i64 lv)).setCell ⟨y, 1, none⟩ (.slice (some ⟨g0, 0, none⟩) m cg)) := ((KeptIn.refl _ V).setCell (p := ⟨y, 0, none⟩) (by simp) _).setCell (p := ⟨y, 1, none⟩) (by simp) _
  obtain ⟨V1, hV1⟩ : ∃ V1, (V.setCell ⟨y, 0, none⟩ (.int .i64 lv)).setCell ⟨y, 1, none⟩ (.slice (some ⟨g0, 0, none⟩) m cg) = V1 := ⟨_, rfl⟩
  rw [hV1] at hset1 hps1 k1
  have hBy := HBX.out.2.2.2.2
  have hb01 := (k1.block B (by omega)).trans hb0V
  have hb11 := hb1V.kept k1 (by omega)
  have kw1 : KeptIn (· < w.heap.size) w V1 := by
    have hwW := HK.out.size
    have hz1 := HBX.out.2.2.2.1.size
    have hyw : w.heap.size ≤ y := by rw [← HY.out]; exact hwW
    exact ((HK.out.trans (HBX.out.2.2.2.1.mono fun k h => Nat.lt_of_lt_of_le h hwW)).trans (kV.mono fun k h => Nat.lt_of_lt_of_le h (Nat.le_trans hwW hz1))).trans (k1.mono fun k h => by show k ≠ y; omega)
  have HCL := Lib.hid (pClone (some ⟨g0, 0, none⟩) cg ps V1 hps1 HI.out.2.2.2.2.2.2.2.1.1 (by have := HI.out.2.2.2.2.2.2.2.1.2; omega))
  have HV1 := Lib.hid hV1
  have H1 := Lib.hid (And.intro hset1 (And.intro hb01 (And.intro hb11 kw1)))
  have HM := Lib.hid (And.intro hm hBy)
  clear hb0V hb1V hblV hyX hgy hset1 hps1 k1 hV1 hb01 hb11 kw1 hpV hg0 kV hm hBy q0
  go_upto_region 7 with fail
  rw [HV1.out]
  have d2 := H1.out.1.c1
  have HCL2 := HCL.out
  rw [HM.out.1] at HCL2
  clear d0 d1 e0 e1
  go_wp2_with (go_at_call 33; refine HCL2.mono ?_)
  rintro e V2 hR
  unfold CloneS at hR
  obtain ⟨g1, cap1, rfl, hrow, k2⟩ := hR
  have hbl2 := H1.out.1.kept k2 H1.out.1.lt
  have hb02 := (k2.block B (Array.getElem?_eq_some_iff.1 H1.out.2.1).1).trans H1.out.2.1
  have hb12 := H1.out.2.2.1.kept k2 H1.out.2.2.1.lt
  have hkw2 := H1.out.2.2.2.trans (k2.mono fun k h => Nat.lt_of_lt_of_le h H1.out.2.2.2.size)
  have hps2 := row_IsPs hrow HI.out.2.2.2.2.2.2.2.2
  have hg1 : V1.heap.size ≤ g1 := by
    rcases hrow.2 with ⟨e, _⟩ | ⟨g, c2, cur, e, hB2, _⟩
    · cases e
    · simp only [Value.slice.injEq, Option.some.injEq, Addr.mk.injEq, and_true, true_and] at e
      omega
  have hyV1 := H1.out.1.lt
  have hgy1 : g1 ≠ y := by omega
  have hty2 : TyC V2 g1 ps.length cap1 := ⟨row_TyP hrow, row_cap hrow⟩
  rw [HM.out.1]
  have d1 := hbl2.c1; have e1 := hbl2.f1
  have hset3 : BoxL y lv (some ⟨g1, 0, none⟩) m cap1 (V2.setCell ⟨y, 1, none⟩ (.slice (some ⟨g1, 0, none⟩) m cap1)) := (heap_setCell_same _ _ _ _ _ _ hbl2).trans rfl
  have hps3 := psSet hps2 ⟨y, 1, none⟩ (.slice (some ⟨g1, 0, none⟩) m cap1) (fun q h => by cases h; exact hgy1)
  have hty3 := hty2.set ⟨y, 1, none⟩ (.slice (some ⟨g1, 0, none⟩) m cap1) hgy1
  have k3 : KeptIn (· ≠ y) V2 (V2.setCell ⟨y, 1, none⟩ (.slice (some ⟨g1, 0, none⟩) m cap1)) := (KeptIn.refl _ V2).setCell (p := ⟨y, 1, none⟩) (by simp) _
  obtain ⟨V3, hV3⟩ : ∃ V3, V2.setCell ⟨y, 1, none⟩ (.slice (some ⟨g1, 0, none⟩) m cap1) = V3 := ⟨_, rfl⟩
  rw [hV3] at hset3 hps3 hty3 k3
  have hBy := HM.out.2
  have hb03 := (k3.block B (by omega)).trans hb02
  have hb13 := hb12.kept k3 (by omega)
  have hyw : w.heap.size ≤ y := by rw [← HY.out]; exact HK.out.size
  have kw3 := hkw2.trans (k3.mono (Y := (· < w.heap.size)) fun k h => by show k ≠ y; omega)
  have hM3 := HI.out.1.old kw3
  obtain ⟨w4, hrun, hmp, hk4, hsz⟩ := hM3.map.store lfV9_inj Try.underlying58 (by have := HI.out.2.1; unfold maxLen; omega) p HI.out.2.2.2.2.2.2.1 (some (lv, g1, m, cap1))
  simp only [lfV9, lf9] at hrun
  unfold leafV at hrun
  have hxlt := HI.out.1.lt
  have hBw := HB.out
  have hb14 := hb13.kept hk4 (by omega)
  have hbl4 := hset3.kept hk4 (by omega)
  have hps4 := psNotMap hps3 HI.out.2.2.2.2.2.2.2.1.1 hM3.map (hk4.mono fun k h => h.2)
  have hgx : g1 ≠ x := by have := H1.out.2.2.2.size; omega
  have hty4 : TyC w4 g1 ps.length cap1 := ⟨hty3.1.kept (hk4.block g1 hgx), hty3.2⟩
  have hMm : IsMm w4 x (c + 1) N (mpPut M p (some (lv, g1, ps.length, cap1))) := by
    refine ⟨by rw [HM.out.1]; exact hmp, fun p' z' hz' => ?_⟩
    unfold mpPut at hz'
    by_cases ep : p' = p
    · rw [if_pos ep] at hz'
      cases hz'
      have q1 : (N[i].1 : Int) = lv := HI.out.2.2.2.1
      have q2 : N[i].2 = ps := HI.out.2.2.2.2.1
      exact ⟨i, hi, g1, cap1, by rw [ep]; exact HI.out.2.2.2.2.2.1.symm, by rw [q1, q2], by rw [q2]; exact hps4, by rw [q2]; exact hty4⟩
    · rw [if_neg ep] at hz'
      obtain ⟨i', hi', g', cap', q1, q2, q3, q4⟩ := hM3.node p' z' hz'
      have hp0 : 0 < N[i'].2.length := HSP.out i' hi'
      refine ⟨i', hi', g', cap', q1, q2, psNotMap q3 hp0 hM3.map (hk4.mono fun k h => h.2), ⟨q4.1.kept (hk4.block g' (q4.1.ne_map hM3.map)), q4.2⟩⟩
  have kw4 : KeptIn (fun j => j < w.heap.size ∧ j ≠ x) w w4 := (kw3.mono fun k h => h.1).trans (hk4.mono fun k h => h.2)
  have HV3 := Lib.hid hV3
  have HR := Lib.hid hrun
  have c8 : V3.cell? ⟨B, 1, none⟩ = some (.map (some x)) := by simp [World.cell?, hb03]
  have d3 := hset3.c0; have d4 := hset3.c1
  have H4 := Lib.hid (And.intro hb14 (And.intro hbl4 (And.intro hMm (And.intro kw4 (show w.heap.size ≤ g1 by have := H1.out.2.2.2.size; omega)))))
  clear hps2 hg1 hyV1 hgy1 hty2 hset3 hps3 hty3 k3 hV3 hBy hb03 hb13 hyw kw3 hM3 hrun hmp hk4 hsz hb14 hbl4 hps4 hgx hty4 hMm kw4 hbl2 hb02 hb12 hkw2 hrow k2 HCL2 d2 hxlt hBw
  go_upto_region 8 with fail
  rw [HV3.out]
  clear d1 e1
  have hr2 := HR.out
  go_upto_region 9 with fail
  clear hr2 c8 d3 d4
  have d0 := H4.out.2.1.c0; have d1 := H4.out.2.1.c1
  have z0 := H4.out.1.c0; have z1 := H4.out.1.c1; have f0 := H4.out.1.f0; have f1 := H4.out.1.f1
  have hset := BoxL.set (lv' := lv) (a' := some ⟨g1, 0, none⟩) (n' := m) (cap' := cap1) H4.out.1
  have hs0 : BoxL (B + 1) lv none 0 0 (w4.setCell ⟨B + 1, 0, none⟩ (.int .i64 lv)) := (heap_setCell_same _ _ _ _ _ _ H4.out.1).trans rfl
  have hm5 := (H4.out.2.2.1.set H4.out.1 0 (.int .i64 lv)).set hs0 1 (.slice (some ⟨g1, 0, none⟩) m cap1)
  have hk5 := (H4.out.2.2.2.1.setCell (p := ⟨B + 1, 0, none⟩) (by intro h; have h1 : B + 1 < w.heap.size := h.1; rw [HB.out] at h1; omega) (.int .i64 lv)).setCell (p := ⟨B + 1, 1, none⟩) (by intro h; have h1 : B + 1 < w.heap.size := h.1; rw [HB.out] at h1; omega) (.slice (some ⟨g1, 0, none⟩) m cap1)
  have HB2 := Lib.hid (And.intro hset (And.intro hm5 hk5))
  clear hset hs0 hm5 hk5
  go_wp2_with fail
  try simp only [Exit.inBlock, Exit.then]
  refine bodyPost_ret (results_leaf rfl _ _ (B + 1) _ _ _ _ rfl HB2.out.1) rfl ?_
  unfold MmN
  exact ⟨g1, cap1, by rw [HM.out.1]; rfl, HB2.out.2.1, H4.out.2.2.2.2, HB2.out.2.2⟩

end Go.Proofs.Ytjollbaohopmjaa
