/- SlotsAgain of layer 10: the walk: it returns true for every input and writes nothing that was there. -/
import Derived.Test.YteppjjgnkjkfhaaAw10
import Derived.Test.YteppjjgnkjkfhaaMt10
import Derived.Test.YteppjjgnkjkfhaaNums
import Derived.Test.YteppjjgnkjkfhaaArgs
set_option linter.unusedVariables false
namespace Go.Proofs.Yteppjjgnkjkfhaa
open Go.RowKit

/-- The slots of a round: k of them, at blocks of the call's own. -/
structure At10 (w : World) (s g k : Nat) (l : List Int) (W : World) : Prop where
  sl : IsSl s g l W
  ok : Ok4 l
  len : l.length = k
  kept : KeptIn (· < w.heap.size) w W
  hs : w.heap.size ≤ s
  hg : w.heap.size ≤ g

theorem At10.step {w W W' : World} {s g k : Nat} {l l' : List Int} (h : At10 w s g k l W) (h1 : IsSl s g l' W') (h2 : Ok4 l') (h3 : l'.length = k) (h4 : KeptIn (· ≠ g) W W') : At10 w s g k l' W' :=
  ⟨h1, h2, h3, h.kept.trans (h4.mono fun k hk => by have := h.hg; omega), h.hs, h.hg⟩
theorem At10.old {w W W' : World} {s g k : Nat} {l : List Int} (h : At10 w s g k l W) (h4 : KeptIn (· < W.heap.size) W W') : At10 w s g k l W' :=
  ⟨h.sl.kept h4 h.sl.lt h.sl.row.lt, h.ok, h.len, h.kept.trans (h4.mono fun k hk => Nat.lt_of_lt_of_le hk h.kept.size), h.hs, h.hg⟩

/-- A deed: whatever it answers, slots stay slots. -/
def Deed10 (w : World) (s g k : Nat) (e : Ending) (W' : World) : Prop := ∃ (v : Value) (l' : List Int), e = .returned v ∧ At10 w s g k l' W'

theorem take10 (w : World) (s g k : Nat) (l : List Int) (W : World) (h : At10 w s g k l W) : Calls Try.prog 9 #[.pointer (some ⟨s, 0, none⟩)] W (Deed10 w s g k) := by
  rcases Nat.lt_or_ge 1 (l.count 0) with h0 | h0
  · refine (slTakeYes s g l W h.sl h0).mono ?_
    rintro e w' ⟨rfl, h1, h2⟩
    exact ⟨_, _, rfl, h.step h1 (ok4_set h.ok _ (by omega)) (by rw [List.length_set]; exact h.len) h2⟩
  · refine (slTakeNo s g l W h.sl h0).mono ?_
    rintro e w' ⟨rfl, rfl⟩
    exact ⟨_, _, rfl, h⟩
theorem move10 (w : World) (s g k : Nat) (l : List Int) (W : World) (h : At10 w s g k l W) : Calls Try.prog 10 #[.pointer (some ⟨s, 0, none⟩)] W (Deed10 w s g k) := by
  rcases Nat.lt_or_ge 0 (l.count 0) with h0 | h0
  · refine (slMoveYes s g l W h.sl h0).mono ?_
    rintro e w' ⟨rfl, h1, h2⟩
    exact ⟨_, _, rfl, h.step h1 (ok4_set h.ok _ (by omega)) (by rw [List.length_set]; exact h.len) h2⟩
  · refine (slMoveNo s g l W h.sl (by omega)).mono ?_
    rintro e w' ⟨rfl, rfl⟩
    exact ⟨_, _, rfl, h⟩
theorem give10 (i : Int) (w : World) (s g k : Nat) (l : List Int) (W : World) (h : At10 w s g k l W) : Calls Try.prog 12 #[.pointer (some ⟨s, 0, none⟩), .int .i64 i] W (Deed10 w s g k) := by
  refine (slGive i s g l W h.sl).mono ?_
  rintro e w' ⟨rfl, h1, h2⟩
  exact ⟨_, _, rfl, h.step h1 (ok4_give h.ok _) ((giveL_length _ _).trans h.len) h2⟩



set_option maxHeartbeats 1000000 in
set_option maxRecDepth 100000 in
theorem againW (n : Int) (a : Option Addr) (len cap : Nat) (zs : List Int) (w : World) (wn : (Lit.int .i64 n).wf = true) (w0 : IsRow .i64 w a len cap zs) :
    Calls Try.prog 5 #[.int .i64 n, .slice a len cap] w fun e w' => e = .returned (.bool true) ∧ KeptIn (· < w.heap.size) w w' := by
  have l0 := w0.len_le
  unfold maxLen at l0
  have b0 : (len : Int) ≤ 9223372036854775807 := by omega
  obtain ⟨kk, hkk, hkw⟩ : ∃ k : Nat, k < 30 ∧ wrap64 ((IntKind.u64.wrap n).tmod 30) = (k : Int) := modWalk n 30 (by decide) (by decide)
  obtain ⟨k, hk⟩ : ∃ k, kk + 2 = k := ⟨_, rfl⟩
  have hk2 : 2 ≤ k := by omega
  have hk31 : k ≤ 31 := by omega
  have hkw2 : wrap64 (2 + wrap64 ((IntKind.u64.wrap n).tmod 30)) = (k : Int) := by rw [hkw]; unfold wrap64; omega
  have W0 := Lib.hid w0
  have CN := Lib.hid fun V => slNew (k : Int) k V (by omega)
  clear w0 l0 wn hk hkw hkk
  go_enter Try.func5, Try.ntmps5
  go_wp2_with fail
  refine (awake10 w).mono ?_
  rintro e w3 ⟨rfl, k3⟩
  go_wp2_with fail
  try rw [hkw2]
  refine (CN.out w3).mono ?_
  rintro e w4 ⟨s, g, rfl, h4, k4, hs, hg⟩
  have H4 : Hid (At10 w s g k (List.replicate k 0) w4) := Lib.hid ⟨h4, ok4_zero k, by simp, k3.trans (k4.mono fun k h => Nat.lt_of_lt_of_le h k3.size), Nat.le_trans k3.size hs, Nat.le_trans k3.size hg⟩
  clear h4 k4 k3 hs hg CN hkw2
  go_wp2_with fail
  go_loopw [7, 8, 9, 10] (fun c _ _ _ W => ∃ (j : Nat) (W' : World) (l : List Int), W' = W ∧ j ≤ len ∧ j ≤ 60 ∧ c = .int .i64 j ∧ Hid (At10 w s g k l W)) (fun c _ _ _ _ => 60 - (intOf c).toNat)
  case atStart => exact ⟨0, _, _, rfl, Nat.zero_le _, Nat.zero_le _, rfl, H4⟩
  case round =>
    obtain ⟨j, W, l, rfl, hj, hj1, rfl, HJ⟩ := hrel
    clear H4
    by_cases hlt : j < len ∧ j < 60
    · obtain ⟨hl0, hl1⟩ := hlt
      have d0 : (0 : Int) ≤ (j : Int) := by omega
      have d1 : (j : Int) < (len : Int) := by omega
      have d2 : (j : Int) < 60 := by omega
      obtain ⟨ba, oa, rfl, hba, hca⟩ := W0.out.elem (by omega)
      obtain ⟨ca, fa⟩ := hca j (by omega)
      have g0 := (World.cell?_of_block (a := ⟨ba, oa + j, none⟩) (HJ.out.kept.block ba hba)).trans ca
      obtain ⟨x, hx90, hxw⟩ : ∃ x : Nat, x < 90 ∧ wrap64 ((IntKind.u64.wrap (zs.getD j 0)).tmod 90) = (x : Int) := modWalk _ 90 (by decide) (by decide)
      generalize zs.getD j 0 = z at *
      clear hca fa ca hj hj1
      have CT := Lib.hid (take10 w s g k l W HJ.out); have CM := Lib.hid (move10 w s g k l W HJ.out); have CG := Lib.hid fun i => give10 i w s g k l W HJ.out
      have x0 : (0 : Int) ≤ (x : Int) := by omega
      have x1 : (x : Int) < 90 := by omega
      have k0 : (0 : Int) < (k : Int) := by omega
      have hx0 : x % 3 = 0 ∨ x % 3 = 1 ∨ x % 3 = 2 := by omega
      rcases hx0 with hx0 | hx0 | hx0
      · have t0 : (x : Int).tmod 3 = 0 := by rw [Int.tmod_eq_emod_of_nonneg x0]; omega
        go_wp2_with fail
        refine (CG.out _).mono ?_
        rintro e W1 hD
        unfold Deed10 at hD
        obtain ⟨v, l1, rfl, hA1⟩ := hD
        have H1 := Lib.hid hA1
        clear hA1 HJ hx0
        by_cases h60 : x ≤ 60
        · have q1 : (x : Int) ≤ 60 := by omega
          have HX := H1
          go_wp2_with fail
          go_roundw
          case rel => exact ⟨j + 1, _, _, rfl, by omega, by omega, by go_num, HX⟩
          case measure => simp [intOf]; omega
        · have q1 : ¬ (x : Int) ≤ 60 := by omega
          have q2 : (60 : Int) < (x : Int) := by omega
          clear h60
          go_wp2_with fail
          refine (slCommit s g l1 W1 H1.out.sl).mono ?_
          rintro e W2 ⟨rfl, h2, k2⟩
          have H2 : Hid (At10 w s g k (l1.map comL) W2) := Lib.hid (H1.out.step h2 (ok4_com H1.out.ok) (by rw [List.length_map]; exact H1.out.len) k2)
          clear h2 k2
          go_wp2_with fail
          refine (slUsed s g _ W2 H2.out.sl).mono ?_
          rintro e W3 ⟨v3, rfl, h3, k3⟩
          have hlen : (usedL (l1.map comL) (l1.map comL).length).length + (l1.map comL).count 0 = k := by
            have := ok4_three H2.out.ok
            rw [com_no3, ← usedL_all, H2.out.len] at this
            rw [H2.out.len]
            omega
          have hmem : ∀ q ∈ usedL (l1.map comL) (l1.map comL).length, ∃ i : Nat, q = (i : Int) ∧ i < l1.length ∧ slUse ((l1.map comL).getD i 0) = true := fun q hq => by
            obtain ⟨i, h1, h2, h4⟩ := used_mem hq
            exact ⟨i, h1, by simpa using h2, h4⟩
          have H3 : Hid (At10 w s g k (l1.map comL) W3) := Lib.hid (H2.out.old k3)
          have hB : w.heap.size ≤ W2.heap.size := H2.out.kept.size
          have hgB : g < W2.heap.size := H2.out.sl.row.lt
          obtain ⟨U, hU⟩ : ∃ U, usedL (l1.map comL) (l1.map comL).length = U := ⟨_, rfl⟩
          rw [hU] at h3 hlen hmem
          obtain ⟨au, cu, rfl, hau⟩ := h3.shape
          obtain ⟨K, hK⟩ : ∃ K, U.length = K := ⟨_, rfl⟩
          rw [hK] at hau hlen
          have HUK : Hid ((usedL (l1.map comL) (l1.map comL).length).length = K) := Lib.hid (by rw [hU]; exact hK)
          have HU := Lib.hid (And.intro hau (And.intro hmem hK))
          have c3 := slWaits s g _ W3 H3.out.sl
          rw [com_no3] at c3
          have c4 := slFree s g _ W3 H3.out.sl
          have FR := Lib.hid c4
          have WA := Lib.hid c3
          have hfk : (l1.map comL).count 0 ≤ k := by omega
          have hfr : (K : Int) + (((l1.map comL).count 0 : Nat) : Int) = k := by omega
          obtain ⟨F, hF⟩ : ∃ F, (l1.map comL).count 0 = F := ⟨_, rfl⟩
          rw [hF] at FR hlen hfr hfk
          have HF := Lib.hid hF
          have hk1 : (F : Int) + (K : Int) = k := by omega
          have hfr2 : F + K = k := by omega
          clear hfr hlen hau hmem hK h3 hU c3 c4 hF k3 H2
          rw [HU.out.2.2]
          go_wp2_with (first | (go_at_call 20; refine WA.out.mono ?_; rintro e _ ⟨rfl, rfl⟩) | (go_at_call 18; refine FR.out.mono ?_; rintro e _ ⟨rfl, rfl⟩))
          clear WA FR
          refine (slCommit s g _ W3 H3.out.sl).mono ?_
          rintro e W4 ⟨rfl, h4, k4⟩
          rw [com_com] at h4
          have H4 : Hid (At10 w s g k (l1.map comL) W4) := Lib.hid (H3.out.step h4 H3.out.ok H3.out.len k4)
          have K4 := Lib.hid k4
          have c3 := slWaits s g _ W4 H4.out.sl
          rw [com_no3] at c3
          have WA := Lib.hid c3
          have CU := Lib.hid (slUsed s g _ W4 H4.out.sl)
          clear h4 k4 c3 H3
          go_wp2_with (go_at_call 20; refine WA.out.mono ?_; rintro e _ ⟨rfl, rfl⟩)
          refine CU.out.mono ?_
          rintro e W5 ⟨v5, rfl, h5, k5⟩
          have H5 : Hid (At10 w s g k (l1.map comL) W5) := Lib.hid (H4.out.old k5)
          have K5 := Lib.hid k5
          obtain ⟨au2, cu2, rfl, _⟩ := h5.shape
          rw [HUK.out]
          have c4 := slFree s g _ W5 H5.out.sl
          rw [HF.out] at c4
          have FR := Lib.hid c4
          clear h5 k5 c4 WA CU
          by_cases hK0 : K = 0
          · subst hK0
            have HX := H5
            go_wp2_with fail
            go_roundw
            case rel => exact ⟨j + 1, _, _, rfl, by omega, by omega, by go_num, HX⟩
            case measure => simp [intOf]; omega
          · have K0 : (0 : Int) < (K : Int) := by omega
            obtain ⟨gu, rfl, hgu1, hgu2, hcell⟩ := HU.out.1 (by omega)
            have hU0 : 0 < U.length := by rw [HU.out.2.2]; omega
            obtain ⟨jn, hjn, hjl, hju⟩ := HU.out.2.1 U[0] (List.getElem_mem hU0)
            have e0 := hcell 0 U[0] (List.getElem?_eq_getElem hU0)
            rw [hjn] at e0
            have hgg : gu ≠ g := by omega
            have e4 : W4.cell? ⟨gu, 0, none⟩ = some (.int .i64 (jn : Int)) := (World.cell?_of_block (a := ⟨gu, 0, none⟩) (K4.out.block gu hgg)).trans e0
            have hg4 : gu < W4.heap.size := Nat.lt_of_lt_of_le hgu2 K4.out.size
            have e5 : W5.cell? ⟨gu, 0, none⟩ = some (.int .i64 (jn : Int)) := (World.cell?_of_block (a := ⟨gu, 0, none⟩) (K5.out.block gu hg4)).trans e4
            obtain ⟨b1, b2, b3, b4, b5, b6, b7, b8, b9⟩ := give_bound H1.out.ok hjl hju
            have c5 := slGive (jn : Int) s g _ W5 H5.out.sl
            rw [b1, b2] at c5
            have HG := Lib.hid c5
            have HB := Lib.hid (And.intro b3 (And.intro b4 (And.intro b5 (And.intro b6 (And.intro b7 (And.intro b8 b9))))))
            have HK := Lib.hid hgg
            clear hcell hU0 hjn hjl hju e0 e4 hg4 c5 b1 b2 b3 b4 b5 b6 b7 b8 b9 hgu1 hgu2 K4 K5 hgg hB hgB HU H4
            go_wp2_with (go_at_call 18; refine FR.out.mono ?_; rintro e _ ⟨rfl, rfl⟩)
            refine HG.out.mono ?_
            rintro e W6 ⟨rfl, h6, k6⟩
            have H6 : Hid (At10 w s g k ((l1.map comL).set jn 3) W6) := Lib.hid (H5.out.step h6 (ok4_set H5.out.ok _ (by omega)) (by rw [List.length_set]; exact H5.out.len) k6)
            have e6 : W6.cell? ⟨gu, 0, none⟩ = some (.int .i64 (jn : Int)) := (World.cell?_of_block (a := ⟨gu, 0, none⟩) (k6.block gu HK.out)).trans e5
            have c6 := slWaits s g _ W6 H6.out.sl
            rw [HB.out.1] at c6
            have WA := Lib.hid c6
            have c7 := slFree s g _ W6 H6.out.sl
            rw [HB.out.2.1, HF.out] at c7
            have FR2 := Lib.hid c7
            have c8 := slGive (jn : Int) s g _ W6 H6.out.sl
            rw [HB.out.2.2.1, HB.out.2.2.2.1] at c8
            have HG2 := Lib.hid c8
            clear h6 k6 e5 c6 c7 c8 FR HG
            go_wp2_with (first | (go_at_call 20; refine WA.out.mono ?_; rintro e _ ⟨rfl, rfl⟩) | (go_at_call 18; refine FR2.out.mono ?_; rintro e _ ⟨rfl, rfl⟩))
            refine HG2.out.mono ?_
            rintro e W7 ⟨rfl, h7, k7⟩
            have H7 : Hid (At10 w s g k ((l1.map comL).set jn 3) W7) := Lib.hid (H6.out.step h7 H6.out.ok H6.out.len k7)
            have c9 := slCommit s g _ W7 H7.out.sl
            rw [HB.out.2.2.2.2.1] at c9
            have CC := Lib.hid c9
            clear h7 k7 e6 c9 WA FR2 HG2 H6
            go_wp2_with fail
            refine CC.out.mono ?_
            rintro e W8 ⟨rfl, h8, k8⟩
            have H8 : Hid (At10 w s g k ((l1.map comL).set jn 0) W8) := Lib.hid (H7.out.step h8 (ok4_set H5.out.ok _ (by omega)) (by rw [List.length_set]; exact H5.out.len) k8)
            have c1 := slWaits s g _ W8 H8.out.sl
            rw [HB.out.2.2.2.2.2.1] at c1
            have WA3 := Lib.hid c1
            have c2 := slFree s g _ W8 H8.out.sl
            rw [HB.out.2.2.2.2.2.2, HF.out] at c2
            have FR3 := Lib.hid c2
            have HX := H8
            have F0 : (0 : Int) ≤ (F : Int) := by omega
            have F1 : (F : Int) ≤ 31 := by omega
            clear h8 k8 c1 c2 CC
            go_wp2_with (first | (go_at_call 20; refine WA3.out.mono ?_; rintro e _ ⟨rfl, rfl⟩) | (go_at_call 18; refine FR3.out.mono ?_; rintro e _ ⟨rfl, rfl⟩))
            go_roundw
            case rel => exact ⟨j + 1, _, _, rfl, by omega, by omega, by go_num, HX⟩
            case measure => simp [intOf]; omega
      · have t0 : (x : Int).tmod 3 = 1 := by rw [Int.tmod_eq_emod_of_nonneg x0]; omega
        go_wp2_with fail
        refine CT.out.mono ?_
        rintro e W1 hD
        unfold Deed10 at hD
        obtain ⟨v, l1, rfl, hA1⟩ := hD
        have H1 := Lib.hid hA1
        clear hA1 HJ hx0
        by_cases h60 : x ≤ 60
        · have q1 : (x : Int) ≤ 60 := by omega
          have HX := H1
          go_wp2_with fail
          go_roundw
          case rel => exact ⟨j + 1, _, _, rfl, by omega, by omega, by go_num, HX⟩
          case measure => simp [intOf]; omega
        · have q1 : ¬ (x : Int) ≤ 60 := by omega
          have q2 : (60 : Int) < (x : Int) := by omega
          clear h60
          go_wp2_with fail
          refine (slCommit s g l1 W1 H1.out.sl).mono ?_
          rintro e W2 ⟨rfl, h2, k2⟩
          have H2 : Hid (At10 w s g k (l1.map comL) W2) := Lib.hid (H1.out.step h2 (ok4_com H1.out.ok) (by rw [List.length_map]; exact H1.out.len) k2)
          clear h2 k2
          go_wp2_with fail
          refine (slUsed s g _ W2 H2.out.sl).mono ?_
          rintro e W3 ⟨v3, rfl, h3, k3⟩
          have hlen : (usedL (l1.map comL) (l1.map comL).length).length + (l1.map comL).count 0 = k := by
            have := ok4_three H2.out.ok
            rw [com_no3, ← usedL_all, H2.out.len] at this
            rw [H2.out.len]
            omega
          have hmem : ∀ q ∈ usedL (l1.map comL) (l1.map comL).length, ∃ i : Nat, q = (i : Int) ∧ i < l1.length ∧ slUse ((l1.map comL).getD i 0) = true := fun q hq => by
            obtain ⟨i, h1, h2, h4⟩ := used_mem hq
            exact ⟨i, h1, by simpa using h2, h4⟩
          have H3 : Hid (At10 w s g k (l1.map comL) W3) := Lib.hid (H2.out.old k3)
          have hB : w.heap.size ≤ W2.heap.size := H2.out.kept.size
          have hgB : g < W2.heap.size := H2.out.sl.row.lt
          obtain ⟨U, hU⟩ : ∃ U, usedL (l1.map comL) (l1.map comL).length = U := ⟨_, rfl⟩
          rw [hU] at h3 hlen hmem
          obtain ⟨au, cu, rfl, hau⟩ := h3.shape
          obtain ⟨K, hK⟩ : ∃ K, U.length = K := ⟨_, rfl⟩
          rw [hK] at hau hlen
          have HUK : Hid ((usedL (l1.map comL) (l1.map comL).length).length = K) := Lib.hid (by rw [hU]; exact hK)
          have HU := Lib.hid (And.intro hau (And.intro hmem hK))
          have c3 := slWaits s g _ W3 H3.out.sl
          rw [com_no3] at c3
          have c4 := slFree s g _ W3 H3.out.sl
          have FR := Lib.hid c4
          have WA := Lib.hid c3
          have hfk : (l1.map comL).count 0 ≤ k := by omega
          have hfr : (K : Int) + (((l1.map comL).count 0 : Nat) : Int) = k := by omega
          obtain ⟨F, hF⟩ : ∃ F, (l1.map comL).count 0 = F := ⟨_, rfl⟩
          rw [hF] at FR hlen hfr hfk
          have HF := Lib.hid hF
          have hk1 : (F : Int) + (K : Int) = k := by omega
          have hfr2 : F + K = k := by omega
          clear hfr hlen hau hmem hK h3 hU c3 c4 hF k3 H2
          rw [HU.out.2.2]
          go_wp2_with (first | (go_at_call 20; refine WA.out.mono ?_; rintro e _ ⟨rfl, rfl⟩) | (go_at_call 18; refine FR.out.mono ?_; rintro e _ ⟨rfl, rfl⟩))
          clear WA FR
          refine (slCommit s g _ W3 H3.out.sl).mono ?_
          rintro e W4 ⟨rfl, h4, k4⟩
          rw [com_com] at h4
          have H4 : Hid (At10 w s g k (l1.map comL) W4) := Lib.hid (H3.out.step h4 H3.out.ok H3.out.len k4)
          have K4 := Lib.hid k4
          have c3 := slWaits s g _ W4 H4.out.sl
          rw [com_no3] at c3
          have WA := Lib.hid c3
          have CU := Lib.hid (slUsed s g _ W4 H4.out.sl)
          clear h4 k4 c3 H3
          go_wp2_with (go_at_call 20; refine WA.out.mono ?_; rintro e _ ⟨rfl, rfl⟩)
          refine CU.out.mono ?_
          rintro e W5 ⟨v5, rfl, h5, k5⟩
          have H5 : Hid (At10 w s g k (l1.map comL) W5) := Lib.hid (H4.out.old k5)
          have K5 := Lib.hid k5
          obtain ⟨au2, cu2, rfl, _⟩ := h5.shape
          rw [HUK.out]
          have c4 := slFree s g _ W5 H5.out.sl
          rw [HF.out] at c4
          have FR := Lib.hid c4
          clear h5 k5 c4 WA CU
          by_cases hK0 : K = 0
          · subst hK0
            have HX := H5
            go_wp2_with fail
            go_roundw
            case rel => exact ⟨j + 1, _, _, rfl, by omega, by omega, by go_num, HX⟩
            case measure => simp [intOf]; omega
          · have K0 : (0 : Int) < (K : Int) := by omega
            obtain ⟨gu, rfl, hgu1, hgu2, hcell⟩ := HU.out.1 (by omega)
            have hU0 : 0 < U.length := by rw [HU.out.2.2]; omega
            obtain ⟨jn, hjn, hjl, hju⟩ := HU.out.2.1 U[0] (List.getElem_mem hU0)
            have e0 := hcell 0 U[0] (List.getElem?_eq_getElem hU0)
            rw [hjn] at e0
            have hgg : gu ≠ g := by omega
            have e4 : W4.cell? ⟨gu, 0, none⟩ = some (.int .i64 (jn : Int)) := (World.cell?_of_block (a := ⟨gu, 0, none⟩) (K4.out.block gu hgg)).trans e0
            have hg4 : gu < W4.heap.size := Nat.lt_of_lt_of_le hgu2 K4.out.size
            have e5 : W5.cell? ⟨gu, 0, none⟩ = some (.int .i64 (jn : Int)) := (World.cell?_of_block (a := ⟨gu, 0, none⟩) (K5.out.block gu hg4)).trans e4
            obtain ⟨b1, b2, b3, b4, b5, b6, b7, b8, b9⟩ := give_bound H1.out.ok hjl hju
            have c5 := slGive (jn : Int) s g _ W5 H5.out.sl
            rw [b1, b2] at c5
            have HG := Lib.hid c5
            have HB := Lib.hid (And.intro b3 (And.intro b4 (And.intro b5 (And.intro b6 (And.intro b7 (And.intro b8 b9))))))
            have HK := Lib.hid hgg
            clear hcell hU0 hjn hjl hju e0 e4 hg4 c5 b1 b2 b3 b4 b5 b6 b7 b8 b9 hgu1 hgu2 K4 K5 hgg hB hgB HU H4
            go_wp2_with (go_at_call 18; refine FR.out.mono ?_; rintro e _ ⟨rfl, rfl⟩)
            refine HG.out.mono ?_
            rintro e W6 ⟨rfl, h6, k6⟩
            have H6 : Hid (At10 w s g k ((l1.map comL).set jn 3) W6) := Lib.hid (H5.out.step h6 (ok4_set H5.out.ok _ (by omega)) (by rw [List.length_set]; exact H5.out.len) k6)
            have e6 : W6.cell? ⟨gu, 0, none⟩ = some (.int .i64 (jn : Int)) := (World.cell?_of_block (a := ⟨gu, 0, none⟩) (k6.block gu HK.out)).trans e5
            have c6 := slWaits s g _ W6 H6.out.sl
            rw [HB.out.1] at c6
            have WA := Lib.hid c6
            have c7 := slFree s g _ W6 H6.out.sl
            rw [HB.out.2.1, HF.out] at c7
            have FR2 := Lib.hid c7
            have c8 := slGive (jn : Int) s g _ W6 H6.out.sl
            rw [HB.out.2.2.1, HB.out.2.2.2.1] at c8
            have HG2 := Lib.hid c8
            clear h6 k6 e5 c6 c7 c8 FR HG
            go_wp2_with (first | (go_at_call 20; refine WA.out.mono ?_; rintro e _ ⟨rfl, rfl⟩) | (go_at_call 18; refine FR2.out.mono ?_; rintro e _ ⟨rfl, rfl⟩))
            refine HG2.out.mono ?_
            rintro e W7 ⟨rfl, h7, k7⟩
            have H7 : Hid (At10 w s g k ((l1.map comL).set jn 3) W7) := Lib.hid (H6.out.step h7 H6.out.ok H6.out.len k7)
            have c9 := slCommit s g _ W7 H7.out.sl
            rw [HB.out.2.2.2.2.1] at c9
            have CC := Lib.hid c9
            clear h7 k7 e6 c9 WA FR2 HG2 H6
            go_wp2_with fail
            refine CC.out.mono ?_
            rintro e W8 ⟨rfl, h8, k8⟩
            have H8 : Hid (At10 w s g k ((l1.map comL).set jn 0) W8) := Lib.hid (H7.out.step h8 (ok4_set H5.out.ok _ (by omega)) (by rw [List.length_set]; exact H5.out.len) k8)
            have c1 := slWaits s g _ W8 H8.out.sl
            rw [HB.out.2.2.2.2.2.1] at c1
            have WA3 := Lib.hid c1
            have c2 := slFree s g _ W8 H8.out.sl
            rw [HB.out.2.2.2.2.2.2, HF.out] at c2
            have FR3 := Lib.hid c2
            have HX := H8
            have F0 : (0 : Int) ≤ (F : Int) := by omega
            have F1 : (F : Int) ≤ 31 := by omega
            clear h8 k8 c1 c2 CC
            go_wp2_with (first | (go_at_call 20; refine WA3.out.mono ?_; rintro e _ ⟨rfl, rfl⟩) | (go_at_call 18; refine FR3.out.mono ?_; rintro e _ ⟨rfl, rfl⟩))
            go_roundw
            case rel => exact ⟨j + 1, _, _, rfl, by omega, by omega, by go_num, HX⟩
            case measure => simp [intOf]; omega
      · have t0 : (x : Int).tmod 3 = 2 := by rw [Int.tmod_eq_emod_of_nonneg x0]; omega
        go_wp2_with fail
        refine CM.out.mono ?_
        rintro e W1 hD
        unfold Deed10 at hD
        obtain ⟨v, l1, rfl, hA1⟩ := hD
        have H1 := Lib.hid hA1
        clear hA1 HJ hx0
        by_cases h60 : x ≤ 60
        · have q1 : (x : Int) ≤ 60 := by omega
          have HX := H1
          go_wp2_with fail
          go_roundw
          case rel => exact ⟨j + 1, _, _, rfl, by omega, by omega, by go_num, HX⟩
          case measure => simp [intOf]; omega
        · have q1 : ¬ (x : Int) ≤ 60 := by omega
          have q2 : (60 : Int) < (x : Int) := by omega
          clear h60
          go_wp2_with fail
          refine (slCommit s g l1 W1 H1.out.sl).mono ?_
          rintro e W2 ⟨rfl, h2, k2⟩
          have H2 : Hid (At10 w s g k (l1.map comL) W2) := Lib.hid (H1.out.step h2 (ok4_com H1.out.ok) (by rw [List.length_map]; exact H1.out.len) k2)
          clear h2 k2
          go_wp2_with fail
          refine (slUsed s g _ W2 H2.out.sl).mono ?_
          rintro e W3 ⟨v3, rfl, h3, k3⟩
          have hlen : (usedL (l1.map comL) (l1.map comL).length).length + (l1.map comL).count 0 = k := by
            have := ok4_three H2.out.ok
            rw [com_no3, ← usedL_all, H2.out.len] at this
            rw [H2.out.len]
            omega
          have hmem : ∀ q ∈ usedL (l1.map comL) (l1.map comL).length, ∃ i : Nat, q = (i : Int) ∧ i < l1.length ∧ slUse ((l1.map comL).getD i 0) = true := fun q hq => by
            obtain ⟨i, h1, h2, h4⟩ := used_mem hq
            exact ⟨i, h1, by simpa using h2, h4⟩
          have H3 : Hid (At10 w s g k (l1.map comL) W3) := Lib.hid (H2.out.old k3)
          have hB : w.heap.size ≤ W2.heap.size := H2.out.kept.size
          have hgB : g < W2.heap.size := H2.out.sl.row.lt
          obtain ⟨U, hU⟩ : ∃ U, usedL (l1.map comL) (l1.map comL).length = U := ⟨_, rfl⟩
          rw [hU] at h3 hlen hmem
          obtain ⟨au, cu, rfl, hau⟩ := h3.shape
          obtain ⟨K, hK⟩ : ∃ K, U.length = K := ⟨_, rfl⟩
          rw [hK] at hau hlen
          have HUK : Hid ((usedL (l1.map comL) (l1.map comL).length).length = K) := Lib.hid (by rw [hU]; exact hK)
          have HU := Lib.hid (And.intro hau (And.intro hmem hK))
          have c3 := slWaits s g _ W3 H3.out.sl
          rw [com_no3] at c3
          have c4 := slFree s g _ W3 H3.out.sl
          have FR := Lib.hid c4
          have WA := Lib.hid c3
          have hfk : (l1.map comL).count 0 ≤ k := by omega
          have hfr : (K : Int) + (((l1.map comL).count 0 : Nat) : Int) = k := by omega
          obtain ⟨F, hF⟩ : ∃ F, (l1.map comL).count 0 = F := ⟨_, rfl⟩
          rw [hF] at FR hlen hfr hfk
          have HF := Lib.hid hF
          have hk1 : (F : Int) + (K : Int) = k := by omega
          have hfr2 : F + K = k := by omega
          clear hfr hlen hau hmem hK h3 hU c3 c4 hF k3 H2
          rw [HU.out.2.2]
          go_wp2_with (first | (go_at_call 20; refine WA.out.mono ?_; rintro e _ ⟨rfl, rfl⟩) | (go_at_call 18; refine FR.out.mono ?_; rintro e _ ⟨rfl, rfl⟩))
          clear WA FR
          refine (slCommit s g _ W3 H3.out.sl).mono ?_
          rintro e W4 ⟨rfl, h4, k4⟩
          rw [com_com] at h4
          have H4 : Hid (At10 w s g k (l1.map comL) W4) := Lib.hid (H3.out.step h4 H3.out.ok H3.out.len k4)
          have K4 := Lib.hid k4
          have c3 := slWaits s g _ W4 H4.out.sl
          rw [com_no3] at c3
          have WA := Lib.hid c3
          have CU := Lib.hid (slUsed s g _ W4 H4.out.sl)
          clear h4 k4 c3 H3
          go_wp2_with (go_at_call 20; refine WA.out.mono ?_; rintro e _ ⟨rfl, rfl⟩)
          refine CU.out.mono ?_
          rintro e W5 ⟨v5, rfl, h5, k5⟩
          have H5 : Hid (At10 w s g k (l1.map comL) W5) := Lib.hid (H4.out.old k5)
          have K5 := Lib.hid k5
          obtain ⟨au2, cu2, rfl, _⟩ := h5.shape
          rw [HUK.out]
          have c4 := slFree s g _ W5 H5.out.sl
          rw [HF.out] at c4
          have FR := Lib.hid c4
          clear h5 k5 c4 WA CU
          by_cases hK0 : K = 0
          · subst hK0
            have HX := H5
            go_wp2_with fail
            go_roundw
            case rel => exact ⟨j + 1, _, _, rfl, by omega, by omega, by go_num, HX⟩
            case measure => simp [intOf]; omega
          · have K0 : (0 : Int) < (K : Int) := by omega
            obtain ⟨gu, rfl, hgu1, hgu2, hcell⟩ := HU.out.1 (by omega)
            have hU0 : 0 < U.length := by rw [HU.out.2.2]; omega
            obtain ⟨jn, hjn, hjl, hju⟩ := HU.out.2.1 U[0] (List.getElem_mem hU0)
            have e0 := hcell 0 U[0] (List.getElem?_eq_getElem hU0)
            rw [hjn] at e0
            have hgg : gu ≠ g := by omega
            have e4 : W4.cell? ⟨gu, 0, none⟩ = some (.int .i64 (jn : Int)) := (World.cell?_of_block (a := ⟨gu, 0, none⟩) (K4.out.block gu hgg)).trans e0
            have hg4 : gu < W4.heap.size := Nat.lt_of_lt_of_le hgu2 K4.out.size
            have e5 : W5.cell? ⟨gu, 0, none⟩ = some (.int .i64 (jn : Int)) := (World.cell?_of_block (a := ⟨gu, 0, none⟩) (K5.out.block gu hg4)).trans e4
            obtain ⟨b1, b2, b3, b4, b5, b6, b7, b8, b9⟩ := give_bound H1.out.ok hjl hju
            have c5 := slGive (jn : Int) s g _ W5 H5.out.sl
            rw [b1, b2] at c5
            have HG := Lib.hid c5
            have HB := Lib.hid (And.intro b3 (And.intro b4 (And.intro b5 (And.intro b6 (And.intro b7 (And.intro b8 b9))))))
            have HK := Lib.hid hgg
            clear hcell hU0 hjn hjl hju e0 e4 hg4 c5 b1 b2 b3 b4 b5 b6 b7 b8 b9 hgu1 hgu2 K4 K5 hgg hB hgB HU H4
            go_wp2_with (go_at_call 18; refine FR.out.mono ?_; rintro e _ ⟨rfl, rfl⟩)
            refine HG.out.mono ?_
            rintro e W6 ⟨rfl, h6, k6⟩
            have H6 : Hid (At10 w s g k ((l1.map comL).set jn 3) W6) := Lib.hid (H5.out.step h6 (ok4_set H5.out.ok _ (by omega)) (by rw [List.length_set]; exact H5.out.len) k6)
            have e6 : W6.cell? ⟨gu, 0, none⟩ = some (.int .i64 (jn : Int)) := (World.cell?_of_block (a := ⟨gu, 0, none⟩) (k6.block gu HK.out)).trans e5
            have c6 := slWaits s g _ W6 H6.out.sl
            rw [HB.out.1] at c6
            have WA := Lib.hid c6
            have c7 := slFree s g _ W6 H6.out.sl
            rw [HB.out.2.1, HF.out] at c7
            have FR2 := Lib.hid c7
            have c8 := slGive (jn : Int) s g _ W6 H6.out.sl
            rw [HB.out.2.2.1, HB.out.2.2.2.1] at c8
            have HG2 := Lib.hid c8
            clear h6 k6 e5 c6 c7 c8 FR HG
            go_wp2_with (first | (go_at_call 20; refine WA.out.mono ?_; rintro e _ ⟨rfl, rfl⟩) | (go_at_call 18; refine FR2.out.mono ?_; rintro e _ ⟨rfl, rfl⟩))
            refine HG2.out.mono ?_
            rintro e W7 ⟨rfl, h7, k7⟩
            have H7 : Hid (At10 w s g k ((l1.map comL).set jn 3) W7) := Lib.hid (H6.out.step h7 H6.out.ok H6.out.len k7)
            have c9 := slCommit s g _ W7 H7.out.sl
            rw [HB.out.2.2.2.2.1] at c9
            have CC := Lib.hid c9
            clear h7 k7 e6 c9 WA FR2 HG2 H6
            go_wp2_with fail
            refine CC.out.mono ?_
            rintro e W8 ⟨rfl, h8, k8⟩
            have H8 : Hid (At10 w s g k ((l1.map comL).set jn 0) W8) := Lib.hid (H7.out.step h8 (ok4_set H5.out.ok _ (by omega)) (by rw [List.length_set]; exact H5.out.len) k8)
            have c1 := slWaits s g _ W8 H8.out.sl
            rw [HB.out.2.2.2.2.2.1] at c1
            have WA3 := Lib.hid c1
            have c2 := slFree s g _ W8 H8.out.sl
            rw [HB.out.2.2.2.2.2.2, HF.out] at c2
            have FR3 := Lib.hid c2
            have HX := H8
            have F0 : (0 : Int) ≤ (F : Int) := by omega
            have F1 : (F : Int) ≤ 31 := by omega
            clear h8 k8 c1 c2 CC
            go_wp2_with (first | (go_at_call 20; refine WA3.out.mono ?_; rintro e _ ⟨rfl, rfl⟩) | (go_at_call 18; refine FR3.out.mono ?_; rintro e _ ⟨rfl, rfl⟩))
            go_roundw
            case rel => exact ⟨j + 1, _, _, rfl, by omega, by omega, by go_num, HX⟩
            case measure => simp [intOf]; omega
    · by_cases hjl : j < len
      · have d1 : (j : Int) < (len : Int) := by omega
        have d2 : ¬ (j : Int) < 60 := by omega
        go_wp2_with fail
        go_ret
        exact ⟨rfl, HJ.out.kept⟩
      · have d1 : ¬ (j : Int) < (len : Int) := by omega
        go_wp2_with fail
        go_ret
        exact ⟨rfl, HJ.out.kept⟩

end Go.Proofs.Yteppjjgnkjkfhaa
