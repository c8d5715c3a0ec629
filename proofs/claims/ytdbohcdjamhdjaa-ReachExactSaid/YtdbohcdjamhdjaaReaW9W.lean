import Derived.Test.YtdbohcdjamhdjaaRr9W
import Derived.Test.YtdbohcdjamhdjaaPy9W
import Derived.Test.YtdbohcdjamhdjaaAw9W
import Derived.Test.YtdbohcdjamhdjaaNd9W
/- ReachExact of layer 9: the walk: it returns true for every input and writes nothing that was there. -/
set_option linter.unusedVariables false
namespace Go.Proofs.Ytdbohcdjamhdjaa
open Go.RowKit

theorem cellsC_length (C : Int → Nat) (L : List Int) : (cellsC C L).length = L.length * 2 := by
  induction L with
  | nil => rfl
  | cons q r ih =>
    have e : cellsC C (q :: r) = .int .i64 q :: .int .i64 (C q : Int) :: cellsC C r := by simp [cellsC]
    rw [e, List.length_cons, List.length_cons, ih, List.length_cons]
    omega
theorem cellsI_at (L : List Int) (i : Nat) (h : i < L.length) : (cellsI L)[i]? = some (.int .i64 L[i]) := by
  unfold cellsI
  rw [List.getElem?_map, List.getElem?_eq_getElem h]
  rfl
theorem enE_length (C : Int → Nat) : (enE C).length = (upTo 512 fun q => decide (0 < C q)).length := by unfold enE; rw [List.length_map]
theorem ex9_num (j n : Nat) (h : j < n) (hn : n ≤ 512) : (0 : Int) ≤ (j : Int) ∧ (j : Int) < (n : Int) ∧ (j : Int) ≤ 600 ∧ (n : Int) ≤ 600 := by omega

theorem IntsL.old9 {W W' : World} {a : Option Addr} {l : List Int} (h : IntsL W a l) (hk : KeptIn (· < W.heap.size) W W') : IntsL W' a l := intsL_keep h hk fun _ h => h
set_option maxRecDepth 100000 in
set_option maxHeartbeats 8000000 in
theorem reaW9 (a1 : Option Addr) (len1 cap1 : Nat) (a2 : Option Addr) (len2 cap2 : Nat) (zs2 : List Int) (w : World) (w1 : IsNodes9 w a1 len1) (w2 : IsRow .i64 w a2 len2 cap2 zs2) :
    Calls Try.prog 3 #[.slice a1 len1 cap1, .slice a2 len2 cap2] w fun e w' => e = .returned (.bool true) ∧ KeptIn (· < w.heap.size) w w' := by
  obtain ⟨NA, hN, hL⟩ := w1
  have l2 := w2.len_le
  have l1 := hL.1
  rw [hN] at l1
  unfold maxLen at l1 l2
  have b1 : (len1 : Int) ≤ 9223372036854775807 := by omega
  have b2 : (len2 : Int) ≤ 9223372036854775807 := by omega
  obtain ⟨hi1, hi2, hi3⟩ := isRow_ints w2
  obtain ⟨rs, hrs⟩ : ∃ rs, zs2.take len2 = rs := ⟨_, rfl⟩
  rw [hrs] at hi1 hi2 hi3
  have HI0 := Lib.hid (And.intro hi1 (And.intro hi2 hi3))
  have HL := Lib.hid hL
  have HN := Lib.hid hN
  clear w2 l1 l2 hN hL hi1 hi2 hi3 hrs
  go_enter Try.func3, Try.ntmps3
  go_wp2_with fail
  refine (awake9 w).mono ?_
  rintro e W1 ⟨rfl, k1⟩
  have HK1 := Lib.hid k1
  clear k1
  by_cases hl1 : 60 < len1
  · have d1 : (60 : Int) < (len1 : Int) := by omega
    clear hl1
    go_wp2_with fail
    go_ret
    exact ⟨rfl, HK1.out⟩
  by_cases hl2 : 10 < len2
  · have d1 : ¬ (60 : Int) < (len1 : Int) := by omega
    have d2 : (10 : Int) < (len2 : Int) := by omega
    clear hl1 hl2
    go_wp2_with fail
    go_ret
    exact ⟨rfl, HK1.out⟩
  have d1 : ¬ (60 : Int) < (len1 : Int) := by omega
  have d2 : ¬ (10 : Int) < (len2 : Int) := by omega
  have HI : Hid (IntsL W1 a2 rs ∧ rs.length = len2 ∧ (∀ r ∈ rs, (Lit.int .i64 r).wf = true) ∧ len2 ≤ 100) := Lib.hid ⟨HI0.out.1.old9 HK1.out, HI0.out.2.1, HI0.out.2.2, by omega⟩
  have HL60 : Hid (len1 ≤ 60) := Lib.hid (by omega)
  clear hl1 hl2 HI0
  go_wp2_with fail
  clear d1 d2
  go_loopw [5] (fun i wr => ∃ (j : Nat), W1 = wr ∧ j ≤ len1 ∧ i = .int .i64 (j : Int) ∧ Hid (∀ (i : Nat) (h : i < NA.length), i < j → NA[i].2.length ≤ 20)) (fun i _ => len1 - (RowKit.intOf i).toNat)
  case atStart => exact ⟨0, by trivial, Nat.zero_le _, rfl, Lib.hid fun i h h0 => absurd h0 (by omega)⟩
  case round =>
    obtain ⟨j, rfl, hj, rfl, HJ⟩ := hrel
    have j0 : (0 : Int) ≤ (j : Int) := by omega
    by_cases hlt : j < len1
    · have j1 : (j : Int) < (len1 : Int) := by omega
      have hjn : j < NA.length := by rw [HN.out]; exact hlt
      obtain ⟨b, off, rfl, hb, hc⟩ := (HL.out.kept HK1.out).2 (by omega)
      obtain ⟨a', cp, -, e1, -⟩ := hc j hjn
      obtain ⟨np, hnp⟩ : ∃ np, NA[j].2.length = np := ⟨_, rfl⟩
      rw [hnp] at e1
      by_cases hbig : 20 < np
      · have n1 : (20 : Int) < (np : Int) := by omega
        clear hc hnp hbig HJ hjn
        go_wp2_with fail
        go_ret
        exact ⟨rfl, HK1.out⟩
      · have n1 : ¬ (20 : Int) < (np : Int) := by omega
        have HJ2 : Hid (∀ (i : Nat) (h : i < NA.length), i < j + 1 → NA[i].2.length ≤ 20) := Lib.hid fun i h h0 => by
          by_cases e : i = j
          · subst e; rw [hnp]; omega
          · exact HJ.out i h (by omega)
        clear hc hnp hbig HJ hjn
        go_wp2_with fail
        go_roundw
        case rel => exact ⟨j + 1, by trivial, by omega, by go_num, HJ2⟩
        case measure => simp only [RowKit.intOf]; omega
    · have j1 : ¬ (j : Int) < (len1 : Int) := by omega
      obtain ⟨W2, hW2⟩ : ∃ W2, W1.alloc (.cells #[.slice a1 len1 cap1, .int .i64 100] 30) = W2 := ⟨_, rfl⟩
      have hsm : ∀ (i : Nat) (h : i < NA.length), NA[i].2.length ≤ 1000 := fun i h => by
        have h1 := HN.out
        have := HJ.out i h (by omega)
        omega
      have hsh := (HL.out.kept HK1.out).shelf (W := W2) (cap := cap1) (r := 100) (by rw [HN.out]; exact hW2) (by have h1 := HN.out; have h2 := HL60.out; omega) hsm
      obtain ⟨s, hs⟩ : ∃ s, W1.heap.size = s := ⟨_, rfl⟩
      have hk12 := hsh.2.2
      rw [hs] at hsh
      have HS : Hid (IsShA W2 s (s + 1) NA ∧ W2.cell? ⟨s, 0, none⟩ = some (.slice a1 NA.length cap1) ∧ KeptIn (· < W1.heap.size) W1 W2) := Lib.hid ⟨hsh.1, hsh.2.1, hk12⟩
      have HK2 := Lib.hid (HK1.out.go hk12)
      have HW := Lib.hid (And.intro hW2 hs)
      clear hsh hk12 hsm hlt HJ hW2 hs
      obtain ⟨R, hR⟩ : ∃ R : Bool, R = true ↔ ∀ r ∈ rs, (tsG NA r).isSome = true := by
        by_cases h : ∀ r ∈ rs, (tsG NA r).isSome = true
        · exact ⟨true, fun _ => h, fun _ => rfl⟩
        · exact ⟨false, fun e => (by cases e), fun e => absurd e h⟩
      have HR := Lib.hid hR
      clear hR
      cases R with
      | false =>
        have HRF : Hid (∀ V, KeptIn (· < W2.heap.size) W2 V → Calls Try.prog 8 #[pgV s, .slice a2 len2 cap2] V (RfG V (N9 NA) rs (inT NA rs) false)) := Lib.hid fun V hk => by
          have := rcRefsG keysOk rfl (HS.out.1.old hk) (HI.out.1.old9 (HS.out.2.2.trans (hk.mono fun k h => Nat.lt_of_lt_of_le h HS.out.2.2.size))) (cap := cap2) (by rw [HI.out.2.1]; exact HI.out.2.2.2) HI.out.2.2.1 HR.out (inT NA rs) (fun q => inT_iff)
          rw [HI.out.2.1] at this
          exact this
        have HPG : Hid (∀ V, KeptIn (· < W2.heap.size) W2 V → Calls Try.prog 9 #[pgV s, .slice a2 len2 cap2] V (PzG V (need9 (N9 NA) rs (inT NA rs)) false)) := Lib.hid fun V hk => rcPagesG (HRF.out V hk)
        have HRX : Hid (∀ V, KeptIn (· < W2.heap.size) W2 V → Calls Try.prog 10 #[.slice a1 len1 cap1, .slice a2 len2 cap2] V (RsG V (enE (cnB (N9 NA) rs (inT NA rs))) false)) := Lib.hid fun V hk => by
          have := r9RefsG (HS.out.1.old hk) ((World.cell?_of_block (a := ⟨s, 0, none⟩) (hk.block s (Nat.lt_of_lt_of_le HS.out.1.ds HS.out.1.le))).trans HS.out.2.1) (HI.out.1.old9 (HS.out.2.2.trans (hk.mono fun k h => Nat.lt_of_lt_of_le h HS.out.2.2.size))) (cr := cap2) (by rw [HI.out.2.1]; exact HI.out.2.2.2) HR.out
          rw [HI.out.2.1, HN.out] at this
          exact this
        unfold pgV at HRF HPG
        have C1 := Lib.hid (HRF.out W2 (KeptIn.refl _ _))
        go_wp2_with fail
        rw [HW.out.1, HW.out.2]
        refine C1.out.mono ?_
        rintro e V1 ⟨rfl, k1⟩
        have C2 := Lib.hid (HPG.out V1 k1)
        have K1 := Lib.hid k1
        clear C1 k1
        go_wp2_with fail
        refine C2.out.mono ?_
        rintro e V2 ⟨rfl, k2⟩
        have K2 := Lib.hid (K1.out.go k2)
        have C3 := Lib.hid (HRX.out V2 K2.out)
        clear C2 k2 K1
        go_wp2_with fail
        refine C3.out.mono ?_
        rintro e V3 ⟨rfl, k3⟩
        have K3 := Lib.hid (HK2.out.go (K2.out.go k3))
        clear C3 k3 K2
        go_wp2_with fail
        go_ret
        exact ⟨rfl, K3.out⟩
      | true =>
        have HRF : Hid (∀ V, KeptIn (· < W2.heap.size) W2 V → Calls Try.prog 8 #[pgV s, .slice a2 len2 cap2] V (RfG V (N9 NA) rs (inT NA rs) true)) := Lib.hid fun V hk => by
          have := rcRefsG keysOk rfl (HS.out.1.old hk) (HI.out.1.old9 (HS.out.2.2.trans (hk.mono fun k h => Nat.lt_of_lt_of_le h HS.out.2.2.size))) (cap := cap2) (by rw [HI.out.2.1]; exact HI.out.2.2.2) HI.out.2.2.1 HR.out (inT NA rs) (fun q => inT_iff)
          rw [HI.out.2.1] at this
          exact this
        have HPG : Hid (∀ V, KeptIn (· < W2.heap.size) W2 V → Calls Try.prog 9 #[pgV s, .slice a2 len2 cap2] V (PzG V (need9 (N9 NA) rs (inT NA rs)) true)) := Lib.hid fun V hk => rcPagesG (HRF.out V hk)
        have HRX : Hid (∀ V, KeptIn (· < W2.heap.size) W2 V → Calls Try.prog 10 #[.slice a1 len1 cap1, .slice a2 len2 cap2] V (RsG V (enE (cnB (N9 NA) rs (inT NA rs))) true)) := Lib.hid fun V hk => by
          have := r9RefsG (HS.out.1.old hk) ((World.cell?_of_block (a := ⟨s, 0, none⟩) (hk.block s (Nat.lt_of_lt_of_le HS.out.1.ds HS.out.1.le))).trans HS.out.2.1) (HI.out.1.old9 (HS.out.2.2.trans (hk.mono fun k h => Nat.lt_of_lt_of_le h HS.out.2.2.size))) (cr := cap2) (by rw [HI.out.2.1]; exact HI.out.2.2.2) HR.out
          rw [HI.out.2.1, HN.out] at this
          exact this
        unfold pgV at HRF HPG
        have C1 := Lib.hid (HRF.out W2 (KeptIn.refl _ _))
        obtain ⟨C, hC⟩ : ∃ C, cnA (N9 NA) rs (inT NA rs) = C := ⟨_, rfl⟩
        obtain ⟨L, hLe⟩ : ∃ L, need9 (N9 NA) rs (inT NA rs) = L := ⟨_, rfl⟩
        have hCB : cnB (N9 NA) rs (inT NA rs) = C := hC
        have hLu : (upTo 512 fun q => decide (0 < C q)) = L := by rw [← hC]; exact hLe
        obtain ⟨n, hn⟩ : ∃ n, L.length = n := ⟨_, rfl⟩
        have hn5 : n ≤ 512 := by rw [← hn, ← hLu]; exact upTo_length _ _
        have hEl : (enE C).length = n := by rw [enE_length, hLu, hn]
        have hEc : cellsE9 (enE C) = cellsC C L := by rw [enE_cells, hLu]
        go_wp2_with fail
        rw [HW.out.1, HW.out.2]
        refine C1.out.mono ?_
        intro e V1 hP
        obtain ⟨v1, rfl, r1, k1⟩ := (show RfS W2 (N9 NA) rs (inT NA rs) e V1 from hP)
        rw [hC, hLe, hn] at r1
        obtain ⟨a3, c3, rfl, x3⟩ := rowX_of r1 (by rw [cellsC_length, hn])
        have C2 := Lib.hid (HPG.out V1 k1)
        have K1 := Lib.hid k1
        have X3 := Lib.hid x3
        clear C1 hP r1 k1 x3
        go_wp2_with fail
        refine C2.out.mono ?_
        intro e V2 hP
        obtain ⟨v2, rfl, r1, k2⟩ := (show PzS V1 (need9 (N9 NA) rs (inT NA rs)) e V2 from hP)
        rw [hLe, hn] at r1
        obtain ⟨a4, c4, rfl, x4⟩ := rowX_of r1 (by rw [Nat.mul_one, ← hn]; simp [cellsI])
        have K2 := Lib.hid (K1.out.go k2)
        have X4 := Lib.hid (And.intro (X3.out.old k2) x4)
        have C3 := Lib.hid (HRX.out V2 K2.out)
        clear C2 hP r1 k2 x4 K1 X3
        go_wp2_with fail
        refine C3.out.mono ?_
        intro e V3 hP
        obtain ⟨v3, rfl, r1, k3⟩ := (show RsG V2 (enE (cnB (N9 NA) rs (inT NA rs))) true e V3 from hP)
        rw [hCB, hEl, hEc] at r1
        obtain ⟨a5, c5, rfl, x5⟩ := rowX_of r1 (by rw [cellsC_length, hn])
        have K3 := Lib.hid (HK2.out.go (K2.out.go k3))
        have X5 := Lib.hid (And.intro (X4.out.1.old k3) (And.intro (X4.out.2.old k3) x5))
        have HLN := Lib.hid hn
        clear C3 hP r1 k3 x5 K2 X4 hC hCB hLe hLu hn hEl hEc HRF HPG HRX HR HS HW
        go_wp2_with fail
        go_loopw [13] (fun i wr => ∃ (t : Nat) (X : World), X = wr ∧ t ≤ n ∧ i = .int .i64 (t : Int) ∧ Hid (KeptIn (· < V3.heap.size) V3 X)) (fun i _ => n - (RowKit.intOf i).toNat)
        case atStart => exact ⟨0, _, rfl, Nat.zero_le _, rfl, Lib.hid (KeptIn.refl _ _)⟩
        case round =>
          obtain ⟨t, X, rfl, ht, rfl, HX⟩ := hrel
          have t0 : (0 : Int) ≤ (t : Int) := by omega
          have tn : (n : Int) ≤ 512 := by omega
          by_cases hlt2 : t < n
          · obtain ⟨t1, t2, t3, t4⟩ := ex9_num t n hlt2 hn5
            have htl : t < L.length := by rw [HLN.out]; exact hlt2
            obtain ⟨q1, q2⟩ := cellsC_at C L t htl
            have q3 := cellsI_at L t htl
            obtain ⟨g3, rfl, _, e1⟩ := (X5.out.1.old HX.out) _ _ q1
            obtain ⟨g3', h3', _, e2⟩ := (X5.out.1.old HX.out) _ _ q2
            obtain ⟨g4, rfl, _, e3⟩ := (X5.out.2.1.old HX.out) _ _ q3
            obtain ⟨g5, rfl, _, e4⟩ := (X5.out.2.2.old HX.out) _ _ q1
            obtain ⟨g5', h5', _, e5⟩ := (X5.out.2.2.old HX.out) _ _ q2
            simp only [Option.some.injEq, Addr.mk.injEq, and_true] at h3' h5'
            subst h3' h5'
            obtain ⟨q, hq⟩ : ∃ q, L[t] = q := ⟨_, rfl⟩
            obtain ⟨c, hc⟩ : ∃ c, C q = c := ⟨_, rfl⟩
            rw [hq] at e1 e2 e3 e4 e5
            rw [hc] at e2 e5
            clear htl q1 q2 q3 hq hc
            go_wp2_with fail
            go_quiet (fail)
            have HX2 : Hid (KeptIn (· < V3.heap.size) V3 (X.drewN nq)) := Lib.hid (HX.out.drewN nq)
            clear e1 e2 e3 e4 e5 HX
            go_wp2_with fail
            go_roundw
            case rel => exact ⟨t + 1, _, rfl, by omega, by go_num, HX2⟩
            case measure => simp only [RowKit.intOf]; omega
          · obtain rfl : t = n := by omega
            have t1 : ¬ (t : Int) < (t : Int) := by omega
            have HKE := Lib.hid (K3.out.go HX.out)
            clear HX hlt2
            go_wp2_with fail
            go_ret
            exact ⟨rfl, HKE.out⟩

end Go.Proofs.Ytdbohcdjamhdjaa
