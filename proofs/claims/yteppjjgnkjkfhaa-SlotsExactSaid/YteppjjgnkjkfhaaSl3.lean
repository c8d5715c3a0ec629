/- Package slots (layer 10): Mark, Commit, Used. -/
import Derived.Test.YteppjjgnkjkfhaaSl2
import Derived.Maps.AppendAt
set_option linter.unusedVariables false
namespace Go.Proofs.Yteppjjgnkjkfhaa
open Go.RowKit

/-- A state behind a commit. -/
def comL (x : Int) : Int := if x = 3 then 0 else if x = 1 then 2 else x
/-- The states, the first j of them behind the commit. -/
def mixL (l : List Int) (j : Nat) : List Int := (l.take j).map comL ++ l.drop j

theorem mixL_zero (l : List Int) : mixL l 0 = l := by simp [mixL]
theorem mixL_all (l : List Int) (j : Nat) (h : l.length ≤ j) : mixL l j = l.map comL := by simp [mixL, List.take_of_length_le h, List.drop_eq_nil_of_le h]
theorem mixL_length (l : List Int) (j : Nat) : (mixL l j).length = l.length := by simp [mixL]; omega
theorem mixL_at (l : List Int) (j : Nat) (h : j < l.length) : (mixL l j)[j]? = some (l.getD j 0) := by
  have hm : min j l.length = j := by omega
  simp [mixL, List.getElem?_append, hm, List.getD_eq_getElem?_getD, List.getElem?_eq_getElem h]
theorem mixL_succ (l : List Int) (j : Nat) (h : j < l.length) : mixL l (j + 1) = (mixL l j).set j (comL (l.getD j 0)) := by
  have hm : min j l.length = j := by omega
  have hd : l.drop j = l.getD j 0 :: l.drop (j + 1) := by rw [List.getD_eq_getElem?_getD, List.getElem?_eq_getElem h]; exact List.drop_eq_getElem_cons h
  have hl : ((l.take j).map comL).length = j := by simp [hm]
  rw [mixL, mixL, hd, List.set_append_right _ _ (by omega), hl, Nat.sub_self, List.set_cons_zero, List.take_succ_eq_append_getElem h, List.map_append, List.append_assoc, List.getD_eq_getElem?_getD, List.getElem?_eq_getElem h]
  rfl
theorem mixL_same (l : List Int) (j : Nat) (h : j < l.length) (hc : comL (l.getD j 0) = l.getD j 0) : mixL l (j + 1) = mixL l j := by
  have hg := mixL_at l j h
  have hj : j < (mixL l j).length := by rw [mixL_length]; exact h
  rw [mixL_succ l j h, hc]
  rw [List.getElem?_eq_getElem hj] at hg
  simp only [Option.some.injEq] at hg
  rw [← hg, List.set_getElem_self]

set_option maxHeartbeats 1000000 in
theorem slCommit (s g : Nat) (l : List Int) (w : World) (h : IsSl s g l w) :
    Calls Try.prog 14 #[.pointer (some ⟨s, 0, none⟩)] w fun e w' => e = .returned (.tuple #[]) ∧ IsSl s g (l.map comL) w' ∧ KeptIn (· ≠ g) w w' := by
  obtain ⟨n, hn⟩ : ∃ n, l.length = n := ⟨_, rfl⟩
  have hm : (n : Int) ≤ 256 := by have := h.le; omega
  have c0 := h.c0
  have HN := Lib.hid hn
  have H0 : Hid (IsSl s g (mixL l 0) w ∧ KeptIn (· ≠ g) w w) := Lib.hid ⟨by rw [mixL_zero]; exact h, .refl _ _⟩
  rw [hn] at c0
  clear h hn
  go_enter Try.func14, Try.ntmps14
  go_wp2_with fail
  clear c0
  go_loopw [2, 3, 11] (fun _ _ c wr => ∃ (j : Nat) (V : World), V = wr ∧ j ≤ n ∧ c = .int .i64 j ∧ Hid (IsSl s g (mixL l j) V ∧ KeptIn (· ≠ g) w V)) (fun _ _ c _ => n - (RowKit.intOf c).toNat)
  case atStart => exact ⟨0, _, rfl, Nat.zero_le _, rfl, H0⟩
  case round =>
    obtain ⟨j, V, rfl, hj, rfl, HJ⟩ := hrel
    clear H0
    have d0 : (0 : Int) ≤ (j : Int) := by omega
    by_cases hlt : j < n
    · have d1 : (j : Int) < (n : Int) := by omega
      have hjl : j < l.length := by rw [HN.out]; exact hlt
      have e1 := HJ.out.1.row.cell j (mixL_at l j hjl)
      have f1 := HJ.out.1.row.fro j
      have c0 := HJ.out.1.c0
      rw [mixL_length, HN.out] at c0
      have hs := mixL_succ l j hjl
      have hq := mixL_same l j hjl
      obtain ⟨y, hy⟩ : ∃ y, l.getD j 0 = y := ⟨_, rfl⟩
      rw [hy] at e1 hs hq
      by_cases h3 : y = 3
      · have HJ2 : Hid (IsSl s g (mixL l (j + 1)) (V.setCell ⟨g, j, none⟩ (slV 0)) ∧ KeptIn (· ≠ g) w (V.setCell ⟨g, j, none⟩ (slV 0))) := Lib.hid ⟨by
          rw [hs, show comL y = 0 by rw [h3]; rfl]; exact HJ.out.1.set j 0, HJ.out.2.setCell (p := ⟨g, j, none⟩) (by simp) _⟩
        subst h3
        clear hy HJ hjl hs hq
        go_wp2_with fail
        go_roundw
        case rel => exact ⟨j + 1, _, rfl, by omega, by go_num, HJ2⟩
        case measure => simp [RowKit.intOf]; omega
      · by_cases h1 : y = 1
        · have HJ2 : Hid (IsSl s g (mixL l (j + 1)) (V.setCell ⟨g, j, none⟩ (slV 2)) ∧ KeptIn (· ≠ g) w (V.setCell ⟨g, j, none⟩ (slV 2))) := Lib.hid ⟨by
            rw [hs, show comL y = 2 by rw [h1]; rfl]; exact HJ.out.1.set j 2, HJ.out.2.setCell (p := ⟨g, j, none⟩) (by simp) _⟩
          subst h1
          clear hy HJ hjl hs hq
          go_wp2_with fail
          go_roundw
          case rel => exact ⟨j + 1, _, rfl, by omega, by go_num, HJ2⟩
          case measure => simp [RowKit.intOf]; omega
        · have HJ2 : Hid (IsSl s g (mixL l (j + 1)) V ∧ KeptIn (· ≠ g) w V) := Lib.hid ⟨by
            rw [hq (by unfold comL; rw [if_neg h3, if_neg h1])]; exact HJ.out.1, HJ.out.2⟩
          clear hy HJ hjl hs hq
          go_wp2_with fail
          go_roundw
          case rel => exact ⟨j + 1, _, rfl, by omega, by go_num, HJ2⟩
          case measure => simp [RowKit.intOf]; omega
    · have d1 : (n : Int) ≤ (j : Int) := by omega
      have HA : Hid (IsSl s g (l.map comL) V ∧ KeptIn (· ≠ g) w V) := Lib.hid ⟨by rw [← mixL_all l j (by rw [HN.out]; omega)]; exact HJ.out.1, HJ.out.2⟩
      clear HJ
      go_wp2_with fail
      go_end0
      exact ⟨rfl, HA.out⟩

/-- What marking a slot answers, and leaves. -/
def markE (l : List Int) (i : Int) : Int := if slIn l.length i = true then (if l.getD i.toNat 0 = 0 then 0 else 8) else 1
def markL (l : List Int) (i : Int) : List Int := if markE l i = 0 then l.set i.toNat 2 else l

--@need L10Exact
theorem slMark (i : Int) (s g : Nat) (l : List Int) (w : World) (h : IsSl s g l w) :
    Calls Try.prog 16 #[.pointer (some ⟨s, 0, none⟩), .int .i64 i] w fun e w' => e = .returned (.int .i64 (markE l i)) ∧ IsSl s g (markL l i) w' ∧ KeptIn (· ≠ g) w w' := by
  have c0 := h.c0
  have CH := slHas i s g l w h
  have H := Lib.hid h
  by_cases hin : slIn l.length i = true
  · rw [hin] at CH
    have HCH := Lib.hid CH
    have h2 : 0 ≤ i ∧ i < l.length := by simpa [slIn] using hin
    obtain ⟨k, rfl⟩ : ∃ k : Nat, i = (k : Int) := ⟨i.toNat, by omega⟩
    have hkl : k < l.length := by omega
    have e1 := h.row.cell k (sl_getD hkl)
    have f1 := h.row.fro k
    by_cases ht : l.getD k 0 = 0
    · have HE : Hid (markE l k = 0 ∧ markL l k = l.set k 2) := Lib.hid (by
        have : markE l (k : Int) = 0 := by unfold markE; rw [if_pos hin, Int.toNat_natCast, if_pos ht]
        exact ⟨this, by unfold markL; rw [if_pos this, Int.toNat_natCast]⟩)
      rw [HE.out.1, HE.out.2]
      have HS := Lib.hid (h.set k 2)
      have hn := h.le
      clear h hin h2
      generalize l.length = n at *
      generalize hy : l.getD k 0 = y at *
      subst ht
      have k0 : (0 : Int) ≤ (k : Int) := by omega
      have k1 : (k : Int) < (n : Int) := by omega
      clear hkl hy CH
      go_enter Try.func16, Try.ntmps16
      go_wp2_with (go_at_call 23; refine HCH.out.mono ?_; rintro e w' ⟨rfl, rfl⟩)
      go_ret
      exact ⟨rfl, HS.out, (KeptIn.refl _ _).setCell (p := ⟨g, k, none⟩) (by simp) _⟩
    · have HE : Hid (markE l k = 8 ∧ markL l k = l) := Lib.hid (by
        have : markE l (k : Int) = 8 := by unfold markE; rw [if_pos hin, Int.toNat_natCast, if_neg ht]
        exact ⟨this, by unfold markL; rw [if_neg (by rw [this]; decide)]⟩)
      rw [HE.out.1, HE.out.2]
      have hn := h.le
      clear h hin h2
      obtain ⟨n, hn'⟩ : ∃ n, l.length = n := ⟨_, rfl⟩
      rw [hn'] at c0 hn hkl
      generalize hy : l.getD k 0 = y at *
      have k0 : (0 : Int) ≤ (k : Int) := by omega
      have k1 : (k : Int) < (n : Int) := by omega
      clear hkl hy hn' CH
      go_enter Try.func16, Try.ntmps16
      go_wp2_with (go_at_call 23; refine HCH.out.mono ?_; rintro e w' ⟨rfl, rfl⟩)
      go_ret
      exact ⟨rfl, H.out, .refl _ _⟩
  · have hin' := hin
    rw [Bool.not_eq_true] at hin
    rw [hin] at CH
    have HCH := Lib.hid CH
    have HE : Hid (markE l i = 1 ∧ markL l i = l) := Lib.hid (by
      have : markE l i = 1 := by unfold markE; rw [if_neg hin']
      exact ⟨this, by unfold markL; rw [if_neg (by rw [this]; decide)]⟩)
    rw [HE.out.1, HE.out.2]
    clear h hin hin' c0 CH
    go_enter Try.func16, Try.ntmps16
    go_wp2_with (go_at_call 23; refine HCH.out.mono ?_; rintro e w' ⟨rfl, rfl⟩)
    go_ret
    exact ⟨rfl, H.out, .refl _ _⟩

/-- The used slots among the first j. -/
def usedL (l : List Int) (j : Nat) : List Int := ((List.range j).filter fun i => slUse (l.getD i 0)).map Int.ofNat

theorem usedL_succ (l : List Int) (j : Nat) : usedL l (j + 1) = if slUse (l.getD j 0) = true then usedL l j ++ [(j : Int)] else usedL l j := by
  unfold usedL
  rw [List.range_succ, List.filter_append]
  cases h : slUse (l.getD j 0) with
  | true =>
    have e : ([j].filter fun i => slUse (l.getD i 0)) = [j] := by rw [List.filter_cons, if_pos h, List.filter_nil]
    rw [e, List.map_append]
    rfl
  | false =>
    have e : ([j].filter fun i => slUse (l.getD i 0)) = [] := by rw [List.filter_cons, if_neg (by rw [h]; simp), List.filter_nil]
    rw [e, List.append_nil]
    rfl
theorem usedL_le (l : List Int) (j : Nat) : (usedL l j).length ≤ j := by
  have := List.length_filter_le (fun i => slUse (l.getD i 0)) (List.range j)
  simp only [usedL, List.length_map]
  rwa [List.length_range] at this

/-- A row of integers that a call has made since block B. -/
def OwnI (B : Nat) (v : Value) (ks : List Int) (W : World) : Prop := W.ownsRow B 3 1 v ks.length (ks.map slV)

theorem OwnI.shape {B : Nat} {v : Value} {ks : List Int} {W : World} (h : OwnI B v ks W) : ∃ a cap, v = .slice a ks.length cap ∧ (0 < ks.length → ∃ g, a = some ⟨g, 0, none⟩ ∧ B ≤ g ∧ g < W.heap.size ∧ ∀ j k, ks[j]? = some k → W.cell? ⟨g, j, none⟩ = some (.int .i64 k)) := by
  rcases h.2 with ⟨rfl, h0⟩ | ⟨g, cap, cur, rfl, hg, hb, hc, _, _, ht⟩
  · exact ⟨none, 0, by rw [h0], fun h => absurd h0 (by omega)⟩
  · refine ⟨_, cap, rfl, fun _ => ⟨g, rfl, hg, (Array.getElem?_eq_some_iff.1 hb).1, fun j k hj => ?_⟩⟩
    rw [cell_of_row W g j _ _ _ hb]
    have hj' : j < ks.length := (List.getElem?_eq_some_iff.1 hj).1
    have : (ks.map slV)[j]? = some (slV k) := by rw [List.getElem?_map, hj]; rfl
    rw [← ht, List.getElem?_take_of_lt (by omega)] at this
    simpa using this

theorem infoIntL : (Try.prog.info? 3).map (fun i => (i.zero, i.size, i.bytes)) = some (some (.int .i64 0), 1, 8) := by kernel_rfl

set_option maxHeartbeats 1000000 in
set_option maxRecDepth 100000 in
theorem slUsed (s g : Nat) (l : List Int) (w : World) (h : IsSl s g l w) :
    Calls Try.prog 21 #[.pointer (some ⟨s, 0, none⟩)] w fun e w' => ∃ v, e = .returned v ∧ OwnI w.heap.size v (usedL l l.length) w' ∧ KeptIn (· < w.heap.size) w w' := by
  obtain ⟨i0, hi, hz0, hz1, hz2⟩ := info1_parts infoIntL
  have c0 := h.c0
  obtain ⟨n, hn⟩ : ∃ n, l.length = n := ⟨_, rfl⟩
  have hnn : n ≤ 256 := by have := h.le; omega
  have HN := Lib.hid hn
  have HR := Lib.hid h
  rw [hn] at c0 ⊢
  have hnI : (n : Int) ≤ 256 := by omega
  have hls := h.lt
  have hlg := h.row.lt
  clear h hn
  have hle : ∀ j, (usedL l j).length ≤ j := usedL_le l
  have HLE := Lib.hid hle
  clear hle
  have HJ0 : Hid (OwnI w.heap.size (.slice none 0 0) (usedL l 0) w ∧ KeptIn (· < w.heap.size) w w) :=
    Lib.hid ⟨⟨by simp [usedL], .inl ⟨rfl, by simp [usedL]⟩⟩, .refl _ _⟩
  go_enter Try.func21, Try.ntmps21
  go_wp2_with fail
  clear c0
  go_loopw [3, 4, 5, 13] (fun v _ _ c wr => ∃ (j : Nat) (W : World) (v0 : Value), W = wr ∧ v0 = v ∧ j ≤ n ∧ c = .int .i64 j ∧ Hid (OwnI w.heap.size v0 (usedL l j) W ∧ KeptIn (· < w.heap.size) w W)) (fun _ _ _ c _ => n - (RowKit.intOf c).toNat)
  case atStart => exact ⟨0, _, _, rfl, rfl, Nat.zero_le _, rfl, HJ0⟩
  case round =>
    obtain ⟨j, W, v0, rfl, rfl, hj, rfl, HJ⟩ := hrel
    clear HJ0
    by_cases hlt : j < n
    · have i0' : (0 : Int) ≤ (j : Int) := by omega
      have i1 : (j : Int) < (n : Int) := by omega
      have hjl : j < l.length := by rw [HN.out]; exact hlt
      have hc := (HR.out.kept HJ.out.2 hls hlg).row.cell j (sl_getD hjl)
      have hts := usedL_succ l j
      obtain ⟨y, hy⟩ : ∃ y, l.getD j 0 = y := ⟨_, rfl⟩
      rw [hy] at hc hts
      clear hy hjl
      by_cases hu : slUse y = true
      · rw [if_pos hu] at hts
        have CS := slSt y W
        rw [hu] at CS
        have HCS := Lib.hid CS
        have hrow := HJ.out.1
        have HTS := Lib.hid hts
        have hsz := HJ.out.2.size
        have hlen := HLE.out j
        unfold OwnI at hrow
        clear hts hu CS
        obtain ⟨K, hK⟩ : ∃ K, (usedL l j).length = K := ⟨_, rfl⟩
        obtain ⟨xs, hxs⟩ : ∃ xs, (usedL l j).map slV = xs := ⟨_, rfl⟩
        rw [hK] at hlen
        rw [hK, hxs] at hrow
        have HX := Lib.hid (And.intro hK hxs)
        clear hK hxs
        go_wp2_with (first | (go_at_call 24; refine HCS.out.mono ?_; rintro e _ ⟨rfl, rfl⟩) | (at_builtin; refine wpList_append_own _ rfl _ _ 26 rfl w.heap.size 3 i0 (.int .i64 0) 1 8 Try.underlying26 hi hz0 hz1 hz2 rfl (by decide) _ _ _ rfl (hrow.alloc _) ⟨W.heap.size, 0, none⟩ 1 1 [.int .i64 (j : Int)] rfl rfl (cell_one_new _ _ _) (by simp [Value.oneCell']) (by unfold maxLen; omega) (by omega) (by simp; omega) ?_))
        intro v' w2 hown' hgrow _
        have HJ2 : Hid (OwnI w.heap.size v' (usedL l (j + 1)) w2 ∧ KeptIn (· < w.heap.size) w w2) := Lib.hid ⟨by
          unfold OwnI
          rw [HTS.out, List.length_append, HX.out.1, List.map_append, HX.out.2]
          exact hown', (HJ.out.2.alloc (fun _ h => h) _).grown (fun _ h => h) hgrow (fun g' hg' hlt' => by
            have := (hrow.lt g' hg').1
            omega)⟩
        clear hown' hgrow hrow HJ HTS HX HCS
        go_wp2_with fail
        go_roundw
        case rel => exact ⟨j + 1, _, _, rfl, rfl, by omega, by go_num, HJ2⟩
        case measure => simp [RowKit.intOf]; omega
      · rw [if_neg hu] at hts
        rw [Bool.not_eq_true] at hu
        have CS := slSt y W
        rw [hu] at CS
        have HCS := Lib.hid CS
        have HJ2 : Hid (OwnI w.heap.size v0 (usedL l (j + 1)) W ∧ KeptIn (· < w.heap.size) w W) := Lib.hid (by rw [hts]; exact HJ.out)
        clear HJ hts hu CS
        go_wp2_with (go_at_call 24; refine HCS.out.mono ?_; rintro e _ ⟨rfl, rfl⟩)
        go_roundw
        case rel => exact ⟨j + 1, _, _, rfl, rfl, by omega, by go_num, HJ2⟩
        case measure => simp [RowKit.intOf]; omega
    · have i1 : (n : Int) ≤ (j : Int) := by omega
      obtain rfl : n = j := by omega
      clear hlt i1
      go_wp2
      go_ret
      exact ⟨v0, rfl, HJ.out.1, HJ.out.2⟩

end Go.Proofs.Yteppjjgnkjkfhaa
