/- SlotsExact of layer 10: the walk: it returns true for every input and writes nothing that was there. -/
import Derived.Test.YteppjjgnkjkfhaaAgain10W
import Derived.Test.YteppjjgnkjkfhaaRef10
import Derived.Deep.Cut
import Derived.Deep.CutRange
import Derived.Deep.CutBlock
import Derived.Deep.RegionLaw
set_option linter.unusedVariables false
namespace Go.Proofs.Yteppjjgnkjkfhaa
open Go.RowKit

/-- A slice of deeds that came in: it has no element; or it leads to its elements' cells. -/
def IsActs10 (w : World) (a : Option Addr) (len : Nat) : Prop :=
  len = 0 ∨ ∃ b off, a = some ⟨b, off, none⟩ ∧ b < w.heap.size ∧ len ≤ maxLen ∧ ∀ i, i < len → ∃ (k n : Int), (Lit.int .i64 k).wf = true ∧ (Lit.int .i64 n).wf = true ∧
    w.cell? ⟨b, off + i * 2, none⟩ = some (.int .i64 k) ∧ w.cell? ⟨b, off + i * 2 + 1, none⟩ = some (.int .i64 n)

theorem IsActs10.len_le {w : World} {a : Option Addr} {len : Nat} (h : IsActs10 w a len) : len ≤ maxLen := by
  rcases h with rfl | ⟨b, off, _, _, h, _⟩
  · exact Nat.zero_le _
  · exact h

/-- Slots, and the document's row of states. -/
structure Ex10 (w : World) (s g u k : Nat) (l l2 : List Int) (W : World) : Prop where
  a : At10 w s g k l W
  r : RowF 3 slV u l2 W
  l2 : l2.length = k
  hu : w.heap.size ≤ u

section
variable {w W W' : World} {s g u k : Nat} {l l' m m' : List Int}
theorem Ex10.gu (h : Ex10 w s g u k l m W) : g ≠ u := h.r.ne h.a.sl.row (by decide)
theorem Ex10.su (h : Ex10 w s g u k l m W) : s ≠ u := h.r.ne h.a.sl.hs (by decide)
theorem Ex10.step (h : Ex10 w s g u k l m W) (h1 : IsSl s g l' W') (h2 : Ok4 l') (h3 : l'.length = k) (h4 : KeptIn (· ≠ g) W W') : Ex10 w s g u k l' m W' :=
  ⟨h.a.step h1 h2 h3 h4, h.r.kept (h4.block u h.gu.symm), h.l2, h.hu⟩
theorem Ex10.stepR (h : Ex10 w s g u k l m W) (h1 : RowF 3 slV u m' W') (h3 : m'.length = k) (h4 : KeptIn (· ≠ u) W W') : Ex10 w s g u k l m' W' :=
  ⟨⟨h.a.sl.kept h4 h.su h.gu, h.a.ok, h.a.len, h.a.kept.trans (h4.mono fun k hk => by have := h.hu; omega), h.a.hs, h.a.hg⟩, h1, h3, h.hu⟩
theorem Ex10.old (h : Ex10 w s g u k l m W) (h4 : KeptIn (· < W.heap.size) W W') : Ex10 w s g u k l m W' :=
  ⟨h.a.old h4, h.r.kept (h4.block u h.r.lt), h.l2, h.hu⟩
theorem Ex10.setR (h : Ex10 w s g u k l m W) (j : Nat) (x : Int) : Ex10 w s g u k l (m.set j x) (W.setCell ⟨u, j, none⟩ (slV x)) :=
  h.stepR (h.r.set j x) (by rw [List.length_set]; exact h.l2) ((KeptIn.refl _ _).setCell (p := ⟨u, j, none⟩) (by simp) _)
end

theorem Ex10.drewN {w W : World} {s g u k : Nat} {l m : List Int} (h : Ex10 w s g u k l m W) (n : Nat) : Ex10 w s g u k l m (W.drewN n) :=
  ⟨⟨⟨h.a.sl.hs, h.a.sl.row, h.a.sl.le⟩, h.a.ok, h.a.len, h.a.kept.drewN n, h.a.hs, h.a.hg⟩, h.r, h.l2, h.hu⟩

theorem Ex10.drew {w W : World} {s g u k : Nat} {l m : List Int} (h : Ex10 w s g u k l m W) : Ex10 w s g u k l m W.drew :=
  ⟨⟨⟨h.a.sl.hs, h.a.sl.row, h.a.sl.le⟩, h.a.ok, h.a.len, h.a.kept.drew, h.a.hs, h.a.hg⟩, h.r, h.l2, h.hu⟩

/-- The round's deed, in its variable at block x. -/
def BoxA (x : Nat) (kd n : Int) (W : World) : Prop := W.heap[x]? = some (.cells #[.int .i64 kd, .int .i64 n] 28 (0, 0))
theorem BoxA.c0 {x : Nat} {kd n : Int} {W : World} (h : BoxA x kd n W) : W.cell? ⟨x, 0, none⟩ = some (.int .i64 kd) := by unfold BoxA at h; simp [World.cell?, h]
theorem BoxA.c1 {x : Nat} {kd n : Int} {W : World} (h : BoxA x kd n W) : W.cell? ⟨x, 1, none⟩ = some (.int .i64 n) := by unfold BoxA at h; simp [World.cell?, h]
theorem BoxA.lt {x : Nat} {kd n : Int} {W : World} (h : BoxA x kd n W) : x < W.heap.size := (Array.getElem?_eq_some_iff.1 h).1

theorem usedL_pre (l : List Int) (j : Nat) : ∀ d, ∃ t, usedL l (j + d) = usedL l j ++ t := by
  intro d
  induction d with
  | zero => exact ⟨[], by simp⟩
  | succ d ih =>
    obtain ⟨t, ht⟩ := ih
    rw [← Nat.add_assoc, usedL_succ, ht]
    split
    · exact ⟨t ++ [((j + d : Nat) : Int)], by simp⟩
    · exact ⟨t, rfl⟩
theorem usedL_at (l : List Int) (j n : Nat) (h : j < n) (hu : slUse (l.getD j 0) = true) : (usedL l n)[(usedL l j).length]? = some (j : Int) := by
  obtain ⟨d, rfl⟩ : ∃ d, n = (j + 1) + d := ⟨n - (j + 1), by omega⟩
  obtain ⟨t, ht⟩ := usedL_pre l (j + 1) d
  rw [ht, usedL_succ, if_pos hu]
  simp

theorem r10CountQ {x : Int} {g : Nat} {l : List Int} {w : World} (h : RowF 3 slV g l w) (hl : l.length ≤ 256) (n : Nat) : Calls Try.prog 11 #[.slice (some ⟨g, 0, none⟩) l.length l.length, .int .i64 x] (w.drewN n) fun e w' => e = .returned (.int .i64 (l.count x : Nat)) ∧ w' = w.drewN n :=
  (r10Count x g l (w.drewN n) h hl).mono fun _ _ ⟨h1, h2⟩ => ⟨h1, h2.symm⟩





attribute [local go_sem high] run_max2f run_min2f

set_option maxHeartbeats 16000000 in
set_option maxRecDepth 100000 in
theorem slexW (n : Int) (a : Option Addr) (len cap : Nat) (w : World) (wn : (Lit.int .i64 n).wf = true) (w0 : IsActs10 w a len) :
    Calls Try.prog 3 #[.int .i64 n, .slice a len cap] w fun e w' => e = .returned (.bool true) ∧ KeptIn (· < w.heap.size) w w' := by
  have l0 := w0.len_le
  unfold maxLen at l0
  have b0 : (len : Int) ≤ 9223372036854775807 := by omega
  have W0 := Lib.hid w0
  clear w0 l0 wn
  by_cases hbig : 20 < n
  · go_enter Try.func3, Try.ntmps3
    go_wp2_with fail
    refine (awake10 w).mono ?_
    rintro e w3 ⟨rfl, k3⟩
    go_wp2_with fail
    go_ret
    exact ⟨rfl, k3⟩
  have b1 : n ≤ 20 := by omega
  obtain ⟨k, hk⟩ : ∃ k : Nat, max n 0 = (k : Int) := ⟨(max n 0).toNat, by omega⟩
  have hk20 : k ≤ 20 := by omega
  have CN := Lib.hid fun V => slNew n k V (by omega)
  obtain ⟨i0, hi, hz0, hz1, hz2⟩ := info1_parts infoIntL
  clear hbig
  go_enter Try.func3, Try.ntmps3
  go_wp2_with fail
  refine (awake10 w).mono ?_
  rintro e w3 ⟨rfl, k3⟩
  go_wp2_with fail
  refine (CN.out w3).mono ?_
  rintro e w4 ⟨s, g, rfl, h4, k4, hs, hg⟩
  have H4 : Hid (At10 w s g k (List.replicate k 0) w4) := Lib.hid ⟨h4, ok4_zero k, by simp, k3.trans (k4.mono fun k h => Nat.lt_of_lt_of_le h k3.size), Nat.le_trans k3.size hs, Nat.le_trans k3.size hg⟩
  clear h4 k4 k3 hs hg CN
  have kI : (k : Int) ≤ 20 := by omega
  go_wp2_with (at_make; refine wpList_make_full _ rfl _ _ 26 rfl w4.heap.size 3 i0 _ 1 Try.underlying26 hi hz0 hz1 .i64 .i64 _ _ k rfl rfl (by first | rfl | exact hk) (by first | rfl | exact hk) (by rw [hz2]; omega) (by unfold maxLen; omega) (Nat.le_refl _) ?_; intro w5 hown hgrow)
  have hrow : RowF 3 slV w4.heap.size (List.replicate k 0) w5 := by
    refine rowF_made ?_
    have : (madeCells (Value.cells (.int .i64 0)) (k * 1)).toList = List.replicate k (slV 0) := made_one k
    rw [← this]
    exact hown
  have hk5 : KeptIn (· < w4.heap.size) w4 w5 := (KeptIn.refl _ _).grown (row := none) (fun _ h => h) hgrow (by simp)
  have H5 : Hid (Ex10 w s g w4.heap.size k (List.replicate k 0) (List.replicate k 0) w5) := Lib.hid ⟨H4.out.old hk5, hrow, by simp, H4.out.kept.size⟩
  clear hown hgrow hrow hk5 H4
  generalize w4.heap.size = u at *
  go_wp2_with fail
  go_loopw [7, 8, 9, 10, 11, 12, 13, 14, 15, 16] (fun c _ _ _ _ _ _ _ _ _ W => ∃ (j : Nat) (W' : World) (l : List Int), W' = W ∧ j ≤ len ∧ j ≤ 100 ∧ c = .int .i64 j ∧ Hid (Ex10 w s g u k l l W)) (fun c _ _ _ _ _ _ _ _ _ _ => 100 - (intOf c).toNat)
  case atStart => exact ⟨0, _, _, rfl, Nat.zero_le _, Nat.zero_le _, rfl, H5⟩
  case round =>
    obtain ⟨j, W, l, rfl, hj, hj1, rfl, HJ⟩ := hrel
    clear H5
    have d0 : (0 : Int) ≤ (j : Int) := by omega
    by_cases hlt : j < len
    · have d1 : (j : Int) < (len : Int) := by omega
      by_cases hlt1 : j < 100
      · have d2 : (j : Int) < 100 := by omega
        obtain ⟨b, off, rfl, hb, _, hel⟩ : ∃ b off, a = some ⟨b, off, none⟩ ∧ b < w.heap.size ∧ len ≤ maxLen ∧ _ := W0.out.resolve_left (by omega)
        obtain ⟨kd, x, wk, wx, e0, e1⟩ := hel j hlt
        have g0 := (World.cell?_of_block (HJ.out.a.kept.block b hb)).trans e0
        have g1 := (World.cell?_of_block (HJ.out.a.kept.block b hb)).trans e1
        have bk := bounds_i64 wk
        have bx := bounds_i64 wx
        have hA5 : BoxA W.heap.size kd x (W.alloc (.cells #[.int .i64 kd, .int .i64 x] 28)) := heap_alloc_new W _
        have H5 : Hid (Ex10 w s g u k l l (W.alloc (.cells #[.int .i64 kd, .int .i64 x] 28)) ∧ BoxA W.heap.size kd x (W.alloc (.cells #[.int .i64 kd, .int .i64 x] 28)) ∧ w.heap.size ≤ W.heap.size) :=
          Lib.hid ⟨HJ.out.old ((KeptIn.refl _ W).alloc (fun _ h => h) _), hA5, HJ.out.a.kept.size⟩
        clear e0 e1 hel wk wx hA5 HJ
        go_wp2_with fail
        clear g0 g1
        generalize W.alloc (.cells #[.int .i64 kd, .int .i64 x] 28) = W5 at *
        generalize W.heap.size = y at *
        have hlow := r10Lowest 0 u l W5 H5.out.1.r (by rw [H5.out.1.l2]; omega)
        rw [H5.out.1.l2] at hlow
        obtain ⟨lw, hlw⟩ : ∃ lw, (if l.idxOf 0 < k then (l.idxOf 0 : Int) else -1) = lw := ⟨_, rfl⟩
        rw [hlw] at hlow
        have HLW := Lib.hid hlw
        refine hlow.mono ?_
        rintro e _ ⟨rfl, rfl⟩
        clear hlow hlw
        have p0 := H5.out.2.1.c0
        have p1 := H5.out.2.1.c1
        go_upto_block 2 with fail
        go_cut [] from 26 to 194 (fun wx => ∃ (L : List Int) (W' : World), W' = wx ∧ Hid (Ex10 w s g u k L L wx))
        case first =>
          as_aux_lemma =>
            by_cases k1 : kd = 1
            · subst k1
              rcases Nat.lt_or_ge 1 (l.count 0) with hc | hc
              · have CT := Lib.hid (slTakeYes s g l W5 H5.out.1.a.sl hc)
                go_wp2_with fail
                refine CT.out.mono ?_
                rintro e W6 ⟨rfl, h1, q1⟩
                have hlt : l.idxOf 0 < k := by rw [← H5.out.1.l2]; exact low_lt (by omega)
                obtain ⟨q, hq⟩ : ∃ q, l.idxOf 0 = q := ⟨_, rfl⟩
                have hlw : lw = (q : Int) := by rw [← HLW.out, if_pos hlt, hq]
                rw [hq] at h1 hlt
                rw [hq]
                subst hlw
                have h2 := H5.out.1.step h1 (ok4_set H5.out.1.a.ok _ (by omega)) (by rw [List.length_set]; exact H5.out.1.a.len) q1
                have hbx : BoxA y _ x W6 := (q1.block y (fun e => by have := H5.out.2.1; rw [e] at this; exact absurd (Eq.trans this.symm H5.out.1.a.sl.row) (by simp))).trans H5.out.2.1
                have p0 := hbx.c0
                have f2 := h2.r.fro q
                have c2 := h2.r.cell q (sl_getD (by rw [h2.l2]; exact hlt))
                generalize l.getD q 0 = z0 at *
                have hcq := fun nn => r10CountQ (x := 0) h2.r (by rw [h2.l2]; omega) nn
                rw [h2.l2] at hcq
                obtain ⟨C, hC⟩ : ∃ C, l.count 0 = C := ⟨_, rfl⟩
                rw [hC] at hcq hc
                have HCQ := Lib.hid hcq
                have h3 := fun nn => (h2.drewN nn).setR q 1
                obtain ⟨L, hL⟩ : ∃ L, l.set q 1 = L := ⟨_, rfl⟩
                rw [hL] at h3
                have HX0 := Lib.hid h3
                have q0 : (0 : Int) ≤ (q : Int) := by omega
                have q2 : (q : Int) < (k : Int) := by omega
                clear h1 h2 h3 hL hbx hq q1 hcq hC hlt CT H5 HLW
                go_wp2_with fail
                go_quiet (first | (go_at_call 11; exact Calls.quiet_of_same (HCQ.out _)))
                have c2' : (W6.drewN nq).cell? ⟨u, q, none⟩ = some (slV z0) := c2
                have f2' : (W6.drewN nq).frozen? ⟨u, q, none⟩ = false := f2
                have h3 := HX0.out nq
                clear c2 f2 p0 HX0 HCQ
                obtain ⟨V1, hV1⟩ : ∃ V1, W6.drewN nq = V1 := ⟨_, rfl⟩
                rw [hV1] at c2' f2' h3 ⊢
                obtain ⟨V, hV⟩ : ∃ V, V1.setCell ⟨u, q, none⟩ (slV 1) = V := ⟨_, rfl⟩
                rw [hV] at h3
                have HX := Lib.hid h3
                have HV := Lib.hid hV
                clear h3 hV hV1
                go_wp2_with fail
                rw [HV.out]
                go_meet
                case rel => exact ⟨_, _, rfl, HX⟩
              · have CT := Lib.hid (slTakeNo s g l W5 H5.out.1.a.sl hc)
                go_wp2_with fail
                refine CT.out.mono ?_
                rintro e _ ⟨rfl, rfl⟩
                have hcq := fun nn => r10CountQ (x := 0) H5.out.1.r (by rw [H5.out.1.l2]; omega) nn
                rw [H5.out.1.l2] at hcq
                obtain ⟨C, hC⟩ : ∃ C, l.count 0 = C := ⟨_, rfl⟩
                rw [hC] at hcq hc
                have HCQ := Lib.hid hcq
                clear hcq hC HLW
                go_wp2_with fail
                go_quiet (first | (go_at_call 11; exact Calls.quiet_of_same (HCQ.out _)))
                have h3 := H5.out.1.drewN nq
                obtain ⟨V, hV⟩ : ∃ V, W5.drewN nq = V := ⟨_, rfl⟩
                rw [hV] at h3 ⊢
                obtain ⟨L, hL⟩ : ∃ L, l = L := ⟨_, rfl⟩
                rw [hL] at h3
                have HX := Lib.hid h3
                clear h3 hV hL H5 HCQ CT p0 p1
                go_wp2_with fail
                go_meet
                case rel => exact ⟨_, _, rfl, HX⟩
            · by_cases k2 : kd = 2
              · subst k2
                clear k1
                rcases Nat.lt_or_ge 0 (l.count 0) with hc | hc
                · have CT := Lib.hid (slMoveYes s g l W5 H5.out.1.a.sl hc)
                  go_wp2_with fail
                  refine CT.out.mono ?_
                  rintro e W6 ⟨rfl, h1, q1⟩
                  have hlt : l.idxOf 0 < k := by rw [← H5.out.1.l2]; exact low_lt (by omega)
                  obtain ⟨q, hq⟩ : ∃ q, l.idxOf 0 = q := ⟨_, rfl⟩
                  have hlw : lw = (q : Int) := by rw [← HLW.out, if_pos hlt, hq]
                  rw [hq] at h1 hlt
                  rw [hq]
                  subst hlw
                  have h2 := H5.out.1.step h1 (ok4_set H5.out.1.a.ok _ (by omega)) (by rw [List.length_set]; exact H5.out.1.a.len) q1
                  have hbx : BoxA y _ x W6 := (q1.block y (fun e => by have := H5.out.2.1; rw [e] at this; exact absurd (Eq.trans this.symm H5.out.1.a.sl.row) (by simp))).trans H5.out.2.1
                  have p0 := hbx.c0
                  have f2 := h2.r.fro q
                  have c2 := h2.r.cell q (sl_getD (by rw [h2.l2]; exact hlt))
                  generalize l.getD q 0 = z0 at *
                  have hcq := fun nn => r10CountQ (x := 0) h2.r (by rw [h2.l2]; omega) nn
                  rw [h2.l2] at hcq
                  obtain ⟨C, hC⟩ : ∃ C, l.count 0 = C := ⟨_, rfl⟩
                  rw [hC] at hcq hc
                  have HCQ := Lib.hid hcq
                  have h3 := fun nn => (h2.drewN nn).setR q 1
                  obtain ⟨L, hL⟩ : ∃ L, l.set q 1 = L := ⟨_, rfl⟩
                  rw [hL] at h3
                  have HX0 := Lib.hid h3
                  have q0 : (0 : Int) ≤ (q : Int) := by omega
                  have q2 : (q : Int) < (k : Int) := by omega
                  clear h1 h2 h3 hL hbx hq q1 hcq hC hlt CT H5 HLW
                  go_wp2_with fail
                  go_quiet (first | (go_at_call 11; exact Calls.quiet_of_same (HCQ.out _)))
                  have c2' : (W6.drewN nq).cell? ⟨u, q, none⟩ = some (slV z0) := c2
                  have f2' : (W6.drewN nq).frozen? ⟨u, q, none⟩ = false := f2
                  have h3 := HX0.out nq
                  clear c2 f2 p0 HX0 HCQ
                  obtain ⟨V1, hV1⟩ : ∃ V1, W6.drewN nq = V1 := ⟨_, rfl⟩
                  rw [hV1] at c2' f2' h3 ⊢
                  obtain ⟨V, hV⟩ : ∃ V, V1.setCell ⟨u, q, none⟩ (slV 1) = V := ⟨_, rfl⟩
                  rw [hV] at h3
                  have HX := Lib.hid h3
                  have HV := Lib.hid hV
                  clear h3 hV hV1
                  go_wp2_with fail
                  rw [HV.out]
                  go_meet
                  case rel => exact ⟨_, _, rfl, HX⟩
                · have CT := Lib.hid (slMoveNo s g l W5 H5.out.1.a.sl (by omega))
                  go_wp2_with fail
                  refine CT.out.mono ?_
                  rintro e _ ⟨rfl, rfl⟩
                  have hcq := fun nn => r10CountQ (x := 0) H5.out.1.r (by rw [H5.out.1.l2]; omega) nn
                  rw [H5.out.1.l2] at hcq
                  obtain ⟨C, hC⟩ : ∃ C, l.count 0 = C := ⟨_, rfl⟩
                  rw [hC] at hcq hc
                  have HCQ := Lib.hid hcq
                  clear hcq hC HLW
                  go_wp2_with fail
                  go_quiet (first | (go_at_call 11; exact Calls.quiet_of_same (HCQ.out _)))
                  have h3 := H5.out.1.drewN nq
                  obtain ⟨V, hV⟩ : ∃ V, W5.drewN nq = V := ⟨_, rfl⟩
                  rw [hV] at h3 ⊢
                  obtain ⟨L, hL⟩ : ∃ L, l = L := ⟨_, rfl⟩
                  rw [hL] at h3
                  have HX := Lib.hid h3
                  clear h3 hV hL H5 HCQ CT p0 p1
                  go_wp2_with fail
                  go_meet
                  case rel => exact ⟨_, _, rfl, HX⟩
              · by_cases k3 : kd = 3
                · subst k3
                  clear k1 k2
                  have hok := ok4_give H5.out.1.a.ok x
                  have CG := fun (V : World) (h : Ex10 w s g u k l l V) => slGive x s g l V h.a.sl
                  obtain ⟨L, hL⟩ : ∃ L, giveL l x = L := ⟨_, rfl⟩
                  obtain ⟨E, hE⟩ : ∃ E, giveE l x = E := ⟨_, rfl⟩
                  have CR := fun (V : World) (h : RowF 3 slV u l V) => r10Give x u l V h (by rw [H5.out.1.l2]; omega)
                  rw [H5.out.1.l2] at CR
                  have hyg : y ≠ g := fun e => by have := H5.out.2.1; rw [e] at this; exact absurd (Eq.trans this.symm H5.out.1.a.sl.row) (by simp)
                  have HP : Hid (∀ V V' : World, V.heap[y]? = W5.heap[y]? → KeptIn (· ≠ g) V V' → V'.cell? ⟨y, 1, none⟩ = some (.int .i64 x)) := Lib.hid fun V V' e h => (World.cell?_of_block (a := ⟨y, 1, none⟩) ((h.block y hyg).trans e)).trans p1
                  have hlen : L.length = k := by rw [← hL]; exact (giveL_length _ _).trans H5.out.1.a.len
                  simp only [hL, hE] at CG CR hok
                  have HG := Lib.hid (And.intro CG (And.intro CR (And.intro hok hlen)))
                  clear CG CR hok hlen hL hE HLW
                  go_wp2_with fail
                  go_region_law (first
                    | (go_simp; go_at_call 12; refine (HG.out.1 _ (by first | exact H5.out.1 | exact H5.out.1.drew)).mono ?_; rintro e W6 ⟨rfl, h6, q6⟩; have p16 : W6.cell? ⟨y, 1, none⟩ = some (.int .i64 x) := (by first | exact HP.out W5.drew W6 rfl q6 | exact HP.out W5 W6 rfl q6); have h62 : Ex10 w s g u k L l W6 := (by first | exact H5.out.1.step h6 HG.out.2.2.1 HG.out.2.2.2 q6 | exact H5.out.1.drew.step h6 HG.out.2.2.1 HG.out.2.2.2 q6))
                    | (go_simp; go_at_call 13; refine (HG.out.2.1 _ (by first | exact h62.r | exact h62.drew.r)).mono ?_; rintro e W7 ⟨rfl, h7, q7⟩))
                  all_goals
                    have HX : Hid (Ex10 w s g u k L L W7) := Lib.hid (by first | exact h62.stepR h7 HG.out.2.2.2 q7 | exact h62.drew.stepR h7 HG.out.2.2.2 q7)
                    clear h6 h7 q6 q7 h62 p16 p0 p1 HG HP H5
                    go_wp2_with fail
                    go_meet
                    case rel => exact ⟨_, _, rfl, HX⟩
                · by_cases k4 : kd = 4
                  · subst k4
                    clear k1 k2 k3
                    go_wp2_with fail
                    refine (slCommit s g l W5 H5.out.1.a.sl).mono ?_
                    rintro e W6 ⟨rfl, h1, q1⟩
                    have h2 := H5.out.1.step h1 (ok4_com H5.out.1.a.ok) (by rw [List.length_map]; exact H5.out.1.a.len) q1
                    have CC := r10Commit u l W6 h2.r (by rw [h2.l2]; omega)
                    rw [h2.l2] at CC
                    have H2 := Lib.hid h2
                    clear h1 h2 q1 H5 p0 p1 HLW
                    go_wp2_with fail
                    refine CC.mono ?_
                    rintro e W7 ⟨rfl, h1, q1⟩
                    have HX := Lib.hid (H2.out.stepR h1 (by rw [List.length_map]; exact H2.out.l2) q1)
                    clear h1 q1 H2
                    go_wp2_with fail
                    go_meet
                    case rel => exact ⟨_, _, rfl, HX⟩
                  · have hyg : y ≠ g := fun e => by have := H5.out.2.1; rw [e] at this; exact absurd (Eq.trans this.symm H5.out.1.a.sl.row) (by simp)
                    have CM := slMark x s g l W5 H5.out.1.a.sl
                    by_cases hin : slIn l.length x = true
                    · have h2 : 0 ≤ x ∧ x < l.length := by simpa [slIn] using hin
                      rw [H5.out.1.l2] at h2
                      obtain ⟨q, rfl⟩ : ∃ q : Nat, x = (q : Int) := ⟨x.toNat, by omega⟩
                      have hqk : q < k := by omega
                      have q0 : (0 : Int) ≤ (q : Int) := by omega
                      have q1 : (q : Int) < (k : Int) := by omega
                      by_cases hz : l.getD q 0 = 0
                      · have hE : markE l q = 0 := by unfold markE; rw [if_pos hin, Int.toNat_natCast, if_pos hz]
                        have hL : markL l q = l.set q 2 := by unfold markL; rw [if_pos hE, Int.toNat_natCast]
                        rw [hE, hL] at CM
                        have HCM := Lib.hid CM
                        clear CM hin h2 hE hL HLW p0
                        go_wp2_with fail
                        refine HCM.out.mono ?_
                        rintro e W6 ⟨rfl, h6, q6⟩
                        have h62 := H5.out.1.step h6 (ok4_set H5.out.1.a.ok _ (by omega)) (by rw [List.length_set]; exact H5.out.1.a.len) q6
                        have p16 : W6.cell? ⟨y, 1, none⟩ = some (.int .i64 (q : Int)) := (World.cell?_of_block (a := ⟨y, 1, none⟩) (q6.block y hyg)).trans p1
                        have c2 := h62.r.cell q (sl_getD (by rw [h62.l2]; exact hqk))
                        have f2 := h62.r.fro q
                        have h3 := h62.setR q 2
                        rw [hz] at c2
                        obtain ⟨V, hV⟩ : ∃ V, W6.setCell ⟨u, q, none⟩ (slV 2) = V := ⟨_, rfl⟩
                        rw [hV] at h3
                        have HV := Lib.hid hV
                        have HX := Lib.hid h3
                        clear h6 q6 h62 h3 hV hz HCM H5 p1
                        go_wp2_with fail
                        rw [HV.out]
                        go_meet
                        case rel => exact ⟨_, _, rfl, HX⟩
                      · have hE : markE l q = 8 := by unfold markE; rw [if_pos hin, Int.toNat_natCast, if_neg hz]
                        have hL : markL l q = l := by unfold markL; rw [if_neg (by rw [hE]; decide)]
                        rw [hE, hL] at CM
                        have HCM := Lib.hid CM
                        clear CM hin h2 hE hL HLW p0
                        go_wp2_with fail
                        refine HCM.out.mono ?_
                        rintro e W6 ⟨rfl, h6, q6⟩
                        have h62 := H5.out.1.step h6 H5.out.1.a.ok H5.out.1.a.len q6
                        have p16 : W6.cell? ⟨y, 1, none⟩ = some (.int .i64 (q : Int)) := (World.cell?_of_block (a := ⟨y, 1, none⟩) (q6.block y hyg)).trans p1
                        have c2 := h62.r.cell q (sl_getD (by rw [h62.l2]; exact hqk))
                        obtain ⟨z, hz2⟩ : ∃ z, l.getD q 0 = z := ⟨_, rfl⟩
                        rw [hz2] at c2 hz
                        have hzb : (z != 0) = true := by simpa using hz
                        have HX := Lib.hid h62
                        clear h6 q6 h62 HCM H5 p1 hz2
                        go_wp2_with fail
                        go_meet
                        case rel => exact ⟨_, _, rfl, HX⟩
                    · have h2 : ¬ (0 ≤ x ∧ x < l.length) := by simpa [slIn] using hin
                      rw [H5.out.1.l2] at h2
                      have hE : markE l x = 1 := by unfold markE; rw [if_neg hin]
                      have hL : markL l x = l := by unfold markL; rw [if_neg (by rw [hE]; decide)]
                      rw [hE, hL] at CM
                      have HCM := Lib.hid CM
                      clear CM hin hE hL HLW p0
                      by_cases hx0 : x < 0
                      · clear h2
                        go_wp2_with fail
                        refine HCM.out.mono ?_
                        rintro e W6 ⟨rfl, h6, q6⟩
                        have HX := Lib.hid (H5.out.1.step h6 H5.out.1.a.ok H5.out.1.a.len q6)
                        have p16 : W6.cell? ⟨y, 1, none⟩ = some (.int .i64 x) := (World.cell?_of_block (a := ⟨y, 1, none⟩) (q6.block y hyg)).trans p1
                        clear h6 q6 HCM H5 p1
                        go_wp2_with fail
                        go_meet
                        case rel => exact ⟨_, _, rfl, HX⟩
                      · have hx1 : (k : Int) ≤ x := by omega
                        clear h2
                        go_wp2_with fail
                        refine HCM.out.mono ?_
                        rintro e W6 ⟨rfl, h6, q6⟩
                        have HX := Lib.hid (H5.out.1.step h6 H5.out.1.a.ok H5.out.1.a.len q6)
                        have p16 : W6.cell? ⟨y, 1, none⟩ = some (.int .i64 x) := (World.cell?_of_block (a := ⟨y, 1, none⟩) (q6.block y hyg)).trans p1
                        clear h6 q6 HCM H5 p1
                        go_wp2_with fail
                        go_meet
                        case rel => exact ⟨_, _, rfl, HX⟩
        case rest =>
          as_aux_lemma =>
            obtain ⟨L, V, rfl, HX⟩ := hcut
            clear H5 p0 p1 HLW
            have cntx := fun x => r10Count x u L V HX.out.r (by rw [HX.out.l2]; omega)
            rw [HX.out.l2] at cntx
            have sl0 := slLen s g L V HX.out.a.sl
            rw [HX.out.a.len] at sl0
            have sl1 := slFree s g L V HX.out.a.sl
            have sl2 := slRoom s g L V HX.out.a.sl
            have sl3 := slWaits s g L V HX.out.a.sl
            have hcl : L.count 0 ≤ k := by rw [← HX.out.l2]; exact List.count_le_length
            have hX : ∃ cx : Int → Nat, ∀ x, L.count x = cx x := ⟨fun x => L.count x, fun _ => rfl⟩
            obtain ⟨cx, hcx⟩ := hX
            simp only [hcx] at cntx sl1 sl2 sl3 hcl
            have F0 : (0 : Int) ≤ ((cx 0 : Nat) : Int) := by omega
            have F1 : ((cx 0 : Nat) : Int) ≤ 20 := by omega
            obtain ⟨R, hR⟩ : ∃ R : Nat, cx 0 - 1 = R := ⟨_, rfl⟩
            have hR2 : max (((cx 0 : Nat) : Int) - 1) 0 = (R : Int) := by omega
            rw [hR] at sl2
            have HC := Lib.hid (And.intro cntx (And.intro sl0 (And.intro sl1 (And.intro sl2 sl3))))
            have CU := Lib.hid (slUsed s g _ V HX.out.a.sl)
            clear cntx sl0 sl1 sl2 sl3 hcl hcx hR
            go_wp2_with (first | (go_at_call 11; refine (HC.out.1 _).mono ?_; rintro e _ ⟨rfl, rfl⟩) | (go_at_call 17; refine HC.out.2.1.mono ?_; rintro e _ ⟨rfl, rfl⟩) | (go_at_call 18; refine HC.out.2.2.1.mono ?_; rintro e _ ⟨rfl, rfl⟩) | (go_at_call 19; refine HC.out.2.2.2.1.mono ?_; rintro e _ ⟨rfl, rfl⟩) | (go_at_call 20; refine HC.out.2.2.2.2.mono ?_; rintro e _ ⟨rfl, rfl⟩))
            clear hR2 HC
            refine CU.out.mono ?_
            rintro e W9 ⟨v9, rfl, h9, k9⟩
            have HY : Hid (Ex10 w s g u k L L W9) := Lib.hid (HX.out.old k9)
            obtain ⟨au, cu, rfl, hau⟩ := h9.shape
            have hK0 := usedL_le L L.length
            have hat := fun i => usedL_at L i L.length
            rw [HX.out.l2] at hK0 hat hau
            rw [HX.out.l2]
            obtain ⟨K, hK⟩ : ∃ K, (usedL L k).length = K := ⟨_, rfl⟩
            rw [hK] at hK0 hau
            rw [hK]
            have HAU := Lib.hid (And.intro hau (And.intro hat hK))
            have K0 : (0 : Int) ≤ (K : Int) := by omega
            have K1 : (K : Int) ≤ 20 := by omega
            clear h9 k9 hau hat hK HX CU hK0
            go_wp2_with fail
            go_loopw [15, 16] (fun n c W => ∃ (i m : Nat) (W' : World), W' = W ∧ W = W9 ∧ i ≤ k ∧ m ≤ i ∧ c = .int .i64 i ∧ n = .int .i64 m ∧ Hid (m = (usedL L i).length)) (fun _ c _ => k - (intOf c).toNat)
            case atStart => exact ⟨0, 0, _, rfl, by trivial, Nat.zero_le _, Nat.le_refl _, rfl, rfl, Lib.hid (by simp [usedL])⟩
            case round =>
              obtain ⟨i, m, V0, rfl, rfl, hi, hmi, rfl, rfl, HI⟩ := hrel
              have i0' : (0 : Int) ≤ (i : Int) := by omega
              by_cases hik : i < k
              · have i1 : (i : Int) < (k : Int) := by omega
                have m0 : (0 : Int) ≤ (m : Int) := by omega
                have m1 : (m : Int) ≤ 20 := by omega
                have e1 := HY.out.r.cell i (sl_getD (by rw [HY.out.l2]; exact hik))
                have hc := usedL_succ L i
                have hat := HAU.out.2.1 i hik
                obtain ⟨z, hz⟩ : ∃ z, L.getD i 0 = z := ⟨_, rfl⟩
                rw [hz] at e1 hc hat
                clear hz
                by_cases hu : slUse z = true
                · rw [if_pos hu] at hc
                  have hat2 := hat hu
                  rw [← HI.out] at hat2
                  have HI2 : Hid (m + 1 = (usedL L (i + 1)).length) := Lib.hid (by rw [hc, List.length_append, ← HI.out]; rfl)
                  have hmK : m < K := by rw [← HAU.out.2.2]; exact (List.getElem?_eq_some_iff.1 hat2).1
                  obtain ⟨gl, rfl, _, _, hcell⟩ := HAU.out.1 (by omega)
                  have e2 := hcell m _ hat2
                  have m2 : (m : Int) < (K : Int) := by omega
                  clear hat2 hat hc HI hcell hmK
                  rcases (show z = 1 ∨ z = 2 by simpa [slUse] using hu) with rfl | rfl
                  · clear hu
                    go_wp2_with fail
                    go_roundw
                    case rel => exact ⟨i + 1, m + 1, _, rfl, by trivial, by omega, by omega, by go_num, by go_num, HI2⟩
                    case measure => simp [intOf]; omega
                  · clear hu
                    go_wp2_with fail
                    go_roundw
                    case rel => exact ⟨i + 1, m + 1, _, rfl, by trivial, by omega, by omega, by go_num, by go_num, HI2⟩
                    case measure => simp [intOf]; omega
                · rw [if_neg hu] at hc
                  have HI2 : Hid (m = (usedL L (i + 1)).length) := Lib.hid (by rw [hc]; exact HI.out)
                  have u1 : (z == 1) = false := by rw [beq_eq_false_iff_ne]; rintro rfl; exact hu rfl
                  have u2 : (z == 2) = false := by rw [beq_eq_false_iff_ne]; rintro rfl; exact hu rfl
                  clear hat hc HI hu
                  go_wp2_with fail
                  go_roundw
                  case rel => exact ⟨i + 1, m, _, rfl, by trivial, by omega, by omega, by go_num, rfl, HI2⟩
                  case measure => simp [intOf]; omega
              · have i1 : (k : Int) ≤ (i : Int) := by omega
                obtain rfl : i = k := by omega
                obtain rfl : m = K := by rw [HI.out, HAU.out.2.2]
                have HX := HY
                clear HI HAU hi hmi
                go_wp2_with fail
                go_roundw
                case rel => exact ⟨j + 1, _, _, rfl, by omega, by omega, by go_num, HX⟩
                case measure => simp [intOf]; omega
      · have d2 : ¬ (j : Int) < 100 := by omega
        go_wp2_with fail
        go_ret
        exact ⟨rfl, HJ.out.a.kept⟩
    · have d1 : ¬ (j : Int) < (len : Int) := by omega
      go_wp2_with fail
      go_ret
      exact ⟨rfl, HJ.out.a.kept⟩

end Go.Proofs.Yteppjjgnkjkfhaa
