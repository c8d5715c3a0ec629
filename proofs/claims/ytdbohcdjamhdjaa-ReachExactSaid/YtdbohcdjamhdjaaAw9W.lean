import Derived.Test.YtdbohcdjamhdjaaAx9W
import Derived.Deep.Cut
import Derived.Deep.CutRange
import Derived.BigQuiet
/- Layer 9: awake. -/
set_option linter.unusedVariables false
namespace Go.Proofs.Ytdbohcdjamhdjaa
open Go.RowKit

theorem tn_new9 (w : World) (room : Nat) (hr : room ≤ 1000000) (W : World) (hW : w.alloc (.cells #[.slice none 0 0, .int .i64 (room : Int)] 30) = W) : TrN w w.heap.size room 0 [] 8 [] W :=
  ⟨_, (tm_new w room hr W hW.symm).1, TrI.zero, Nat.zero_le _, fun k hk => by rw [hk]; exact Nat.le_refl _, by rw [← hW]; exact (KeptIn.refl _ w).alloc (fun _ h => h) _⟩
/-- A row of integers that was written down. -/
theorem ints_new9 (V : World) (rs : List Int) (h : rs.length ≤ 100) : IntsL (V.alloc (.cells (cellsI rs).toArray 3)) (some ⟨V.heap.size, 0, none⟩) rs :=
  ⟨by unfold maxLen; omega, fun hp => ⟨V.heap.size, 0, rfl, by simp, fun i hi => by
    rw [cell_of_row _ _ _ _ _ _ (heap_alloc_new V _)]
    simp [cellsI, hi]⟩⟩

/-- What awake finds. -/
structure Aw9 (w : World) (s r a b ka kb : Nat) (N : List Nd) (D : Nat → Prop) (W : World) : Prop where
  sx : Sx N r a b ka kb
  sh : IsSh W s 100 N D
  nl : N.length ≤ 80
  kept : KeptIn (· < w.heap.size) w W
theorem Aw9.old {w W W' : World} {s r a b ka kb : Nat} {N : List Nd} {D : Nat → Prop} (h : Aw9 w s r a b ka kb N D W) (hk : KeptIn (· < W.heap.size) W W') : Aw9 w s r a b ka kb N D W' := ⟨h.sx, h.sh.old hk, h.nl, h.kept.go hk⟩
theorem aw_grown {w W : World} {s r f : Nat} {N : List Nd} {qs : Pairs} (h : TrN w s 100 r qs f N W) (hf : f ≤ 23) (hq : 15 < qs.length) (hl : N.length ≤ 80) : ∃ a b ka kb D, Aw9 w s r a b ka kb N D W := by
  obtain ⟨D, h1, h2, h3, h4, h5⟩ := h
  obtain ⟨a, b, ka, kb, _, ht, hnd, hr, pa, pb, ha, hb⟩ := (h2.mono hf).two (Nat.le_refl _) hq
  exact ⟨a, b, ka, kb, D, ⟨by omega, ⟨_, ht⟩, hnd, hr, ⟨_, ha⟩, ⟨_, hb⟩⟩, h1, hl, h5⟩
section
variable {w W : World} {s r a b ka kb : Nat} {N : List Nd} {D : Nat → Prop}
theorem Aw9.refs (h : Aw9 w s r a b ka kb N D W) {rs : List Int} {n : Nat} (hn : rs.length = n) (hr : ∀ x ∈ rs, x = (r : Int) ∨ x = 0) (hm : (r : Int) ∈ rs) (hl : n ≤ 100) (cap : Nat) :
    Calls Try.prog 8 #[pgV s, .slice (some ⟨W.heap.size, 0, none⟩) n cap] (W.alloc (.cells (cellsI rs).toArray 3)) (RfS (W.alloc (.cells (cellsI rs).toArray 3)) N rs (sxP r a b)) := by
  subst hn
  exact rcRefs keysOk h.sx.n h.sh.fits9 (fun i hi => (h.sh.pos i hi).2) (h.sh.old ((KeptIn.refl _ W).alloc (fun _ h => h) _)) (ints_new9 W rs hl) hl (h.sx.hG hr) _ (h.sx.hP hr hm)
theorem Aw9.pages (h : Aw9 w s r a b ka kb N D W) {L : List Int} (hL : need9 N [(r : Int), (r : Int), 0] (sxP r a b) = L) :
    Calls Try.prog 9 #[pgV s, .slice (some ⟨W.heap.size, 0, none⟩) 1 1] (W.alloc (.cells (cellsI [(r : Int)]).toArray 3)) (PzS (W.alloc (.cells (cellsI [(r : Int)]).toArray 3)) L) := by
  have := rcPages (h.refs (rs := [(r : Int)]) (n := 1) rfl (by simp) (by simp) (by decide) 1)
  rw [h.sx.same, hL] at this
  exact this
theorem Aw9.bad (h : Aw9 w s r a b ka kb N D W) (cap : Nat) : Calls Try.prog 8 #[pgV s, .slice (some ⟨W.heap.size, 0, none⟩) 1 cap] (W.alloc (.cells (cellsI [99]).toArray 3)) fun e w' => e = .returned (.tuple #[.slice none 0 0, .int .i64 3]) ∧ KeptIn (· < (W.alloc (.cells (cellsI [99]).toArray 3)).heap.size) (W.alloc (.cells (cellsI [99]).toArray 3)) w' :=
  rcBad (h.sh.old ((KeptIn.refl _ W).alloc (fun _ h => h) _)) (rs := [99]) (ints_new9 W [99] (by simp)) (by simp) 99 rfl (by omega) (by simp [Lit.wf, IntKind.min, IntKind.max, IntKind.signed, IntKind.bits]) (by have := h.nl; omega)
end

set_option maxRecDepth 100000 in
set_option maxHeartbeats 4000000 in
theorem awake9 (w : World) : Calls Try.prog 7 #[] w fun e w' => e = .returned (.bool true) ∧ KeptIn (· < w.heap.size) w w' := by
  obtain ⟨W, hW⟩ : ∃ W, w.alloc (.cells #[.slice none 0 0, .int .i64 100] 30) = W := ⟨_, rfl⟩
  have ht := tn_new9 w 100 (by decide) W hW
  have HG := Lib.hid (rcGrown ht 16 (by decide))
  obtain ⟨s, hs⟩ : ∃ s, w.heap.size = s := ⟨_, rfl⟩
  rw [hs] at HG
  have HW := Lib.hid (And.intro hW hs)
  clear hW hs ht
  go_enter Try.func7, Try.ntmps7
  go_upto_region 2 with fail
  rw [HW.out.1, HW.out.2]
  go_wp2_with fail
  refine HG.out.mono ?_
  rintro e V1 ⟨r, N, rfl, hk0, hor⟩
  rcases hor with ⟨_, h⟩ | ⟨h, hl⟩
  · exfalso; omega
  obtain ⟨a, b, ka, kb, D, hA⟩ := aw_grown h (by decide) (by rw [rowG_length]; decide) hl
  clear h hl hk0 HG HW
  have HA := Lib.hid hA
  have HR := Lib.hid (hA.refs (rs := [(r : Int), (r : Int), 0]) (n := 3) rfl (by simp) (by simp) (by decide) 3)
  have HA1 := Lib.hid (hA.old ((KeptIn.refl _ V1).alloc (fun _ h => h) (.cells (cellsI [(r : Int), (r : Int), 0]).toArray 3)))
  clear hA
  simp only [cellsI, List.map_cons, List.map_nil] at HR HA1
  unfold pgV at HR
  go_wp2_with fail
  refine HR.out.mono ?_
  rintro e V2 ⟨v1, rfl, hrow, hk1⟩
  obtain ⟨C, hC⟩ : ∃ C, cnA N [(r : Int), (r : Int), 0] (sxP r a b) = C := ⟨_, rfl⟩
  obtain ⟨L, hL⟩ : ∃ L, need9 N [(r : Int), (r : Int), 0] (sxP r a b) = L := ⟨_, rfl⟩
  rw [hC, hL] at hrow
  obtain ⟨h3, hq, hsum⟩ := HA.out.sx.three hC hL
  obtain ⟨a1, c1, rfl⟩ := row_slice9 hrow
  have HRF := Lib.hid (row_IsRf hrow)
  have hA2 := HA1.out.old hk1
  have HA2 := Lib.hid hA2
  have HP := Lib.hid (hA2.pages hL)
  have HL := Lib.hid (And.intro h3 (And.intro hq hsum))
  rw [h3]
  simp only [cellsI, List.map_cons, List.map_nil] at HP
  unfold pgV at HP
  clear hrow hk1 hC hL h3 hq hsum hA2 HR HA1 HA
  go_wp2_with fail
  refine HP.out.mono ?_
  rintro e V3 ⟨v2, rfl, hrow2, hk2⟩
  obtain ⟨a2, c2, rfl⟩ := row_sliceI hrow2
  have hk02 : KeptIn (· < V2.heap.size) V2 V3 := ((KeptIn.refl _ V2).alloc (fun _ h => h) _).go hk2
  have hA3 := HA2.out.old hk02
  have HRF3 := Lib.hid (HRF.out.kept hk02 fun k h => h)
  have HI3 := Lib.hid (rowIntsL hrow2 (by rw [HL.out.1]; decide))
  have HB := Lib.hid (hA3.bad 1)
  have HK3 := Lib.hid hA3.kept
  rw [HL.out.1]
  simp only [cellsI, List.map_cons, List.map_nil] at HB
  unfold pgV at HB
  clear hrow2 hk2 hk02 hA3 HA2 HRF HP
  go_wp2_with fail
  refine HB.out.mono ?_
  rintro e V4 ⟨rfl, hk3⟩
  have hk03 : KeptIn (· < V3.heap.size) V3 V4 := ((KeptIn.refl _ V3).alloc (fun _ h => h) _).go hk3
  have HX : Hid (IsRf V4 a1 C L ∧ IntsL V4 a2 L ∧ KeptIn (· < w.heap.size) w V4) := Lib.hid ⟨HRF3.out.kept hk03 fun k h => h, intsL_keep HI3.out hk03 fun k h => h, HK3.out.go hk03⟩
  clear hk3 hk03 HRF3 HI3 HB HK3
  go_wp2_with fail
  go_loopw [9, 10] (fun n i wr => ∃ (j t : Nat) (X : World), X = wr ∧ j ≤ 3 ∧ i = .int .i64 (j : Int) ∧ n = .int .i64 (t : Int) ∧ Hid (t = ((L.take j).map C).sum ∧ IsRf X a1 C L ∧ IntsL X a2 L ∧ KeptIn (· < w.heap.size) w X)) (fun _ i _ => 3 - (RowKit.intOf i).toNat)
  case atStart => exact ⟨0, 0, _, rfl, Nat.zero_le _, rfl, rfl, Lib.hid ⟨rfl, HX.out⟩⟩
  case round =>
    obtain ⟨j, t, X, rfl, hj, rfl, rfl, HJ⟩ := hrel
    clear HX
    by_cases hlt : j < 3
    · have hjl : j < L.length := by rw [HL.out.1]; exact hlt
      obtain ⟨b1, o1, rfl, hb1, hc1⟩ := HJ.out.2.1.cells (by omega)
      obtain ⟨b2, o2, rfl, hb2, hc2⟩ := HJ.out.2.2.1.cells (by omega)
      obtain ⟨e1, e2⟩ := hc1 j hjl
      have e3 := hc2 j hjl
      have hgd : L.getD j 0 = L[j] := by rw [List.getD_eq_getElem?_getD, List.getElem?_eq_getElem hjl]; rfl
      have htk : L.take (j + 1) = L.take j ++ [L[j]] := by rw [List.take_add_one, List.getElem?_eq_getElem hjl]; rfl
      have hCq := HL.out.2.1 L[j] (List.getElem_mem hjl)
      rw [hgd] at e3
      obtain ⟨q, hq⟩ : ∃ q, L[j] = q := ⟨_, rfl⟩
      rw [hq] at e1 e2 e3 htk hCq
      have hs1 : ((L.take (j + 1)).map C).sum = t + C q := by rw [htk, List.map_append, List.sum_append, HJ.out.1]; rfl
      have ht4 : t + C q ≤ 4 := by
        rw [← hs1, ← HL.out.2.2]
        conv => rhs; rw [← List.take_append_drop (j + 1) L, List.map_append, List.sum_append]
        omega
      have d0 : (0 : Int) ≤ (j : Int) := by omega
      have d1 : (j : Int) < 3 := by omega
      have HQ := Lib.hid (And.intro hs1 ht4)
      clear hc1 hc2 hgd htk hs1 ht4 hjl hq hb1 hb2
      by_cases hqr : q = (r : Int)
      · subst hqr
        rw [if_pos rfl] at hCq
        rw [hCq] at e2 HQ
        have t1 : wrap64 ((t : Int) + 2) = ((t + 2 : Nat) : Int) := by have := HQ.out.2; unfold wrap64; omega
        have HT := Lib.hid t1
        clear hCq t1
        rw [show ((2 : Nat) : Int) = 2 from rfl] at e2
        go_wp2_with fail
        go_quiet (fail)
        have t1 := HT.out
        go_wp2_with fail
        go_roundw
        case rel => exact ⟨j + 1, t + 2, _, rfl, by omega, by go_num, by first | rfl | exact congrArg (Value.int .i64) t1, Lib.hid ⟨HQ.out.1.symm, HJ.out.2.1.kept ((KeptIn.refl _ _).drewN _) fun k h => h, intsL_keep HJ.out.2.2.1 ((KeptIn.refl _ _).drewN _) fun k h => h, HJ.out.2.2.2.drewN _⟩⟩
        case measure => simp only [RowKit.intOf]; omega
      · rw [if_neg hqr] at hCq
        rw [hCq] at e2 HQ
        have t1 : wrap64 ((t : Int) + 1) = ((t + 1 : Nat) : Int) := by have := HQ.out.2; unfold wrap64; omega
        have HT := Lib.hid t1
        clear hCq t1
        rw [show ((1 : Nat) : Int) = 1 from rfl] at e2
        have q1 : (q == (r : Int)) = false := beq_eq_false_iff_ne.2 hqr
        have q2 : (q != (r : Int)) = true := bne_iff_ne.2 hqr
        have q3 : decide (q = (r : Int)) = false := decide_eq_false hqr
        go_wp2_with fail
        go_quiet (fail)
        have t1 := HT.out
        go_wp2_with fail
        go_roundw
        case rel => exact ⟨j + 1, t + 1, _, rfl, by omega, by go_num, by first | rfl | exact congrArg (Value.int .i64) t1, Lib.hid ⟨HQ.out.1.symm, HJ.out.2.1.kept ((KeptIn.refl _ _).drewN _) fun k h => h, intsL_keep HJ.out.2.2.1 ((KeptIn.refl _ _).drewN _) fun k h => h, HJ.out.2.2.2.drewN _⟩⟩
        case measure => simp only [RowKit.intOf]; omega
    · obtain rfl : j = 3 := by omega
      have ht4 : t = 4 := by rw [HJ.out.1, List.take_of_length_le (by rw [HL.out.1]; exact Nat.le_refl _)]; exact HL.out.2.2
      subst ht4
      have HE := Lib.hid HJ.out.2.2.2
      clear HJ hlt hj
      go_wp2_with fail
      go_ret
      exact ⟨rfl, HE.out⟩

end Go.Proofs.Ytdbohcdjamhdjaa
