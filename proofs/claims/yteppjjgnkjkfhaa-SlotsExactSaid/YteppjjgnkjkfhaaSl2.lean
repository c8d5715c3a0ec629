/- Package slots (layer 10): New, use, Take, Move, Give, Mark, Commit. -/
import Derived.Test.YteppjjgnkjkfhaaSl
set_option linter.unusedVariables false
namespace Go.Proofs.Yteppjjgnkjkfhaa
open Go.RowKit

theorem infoSlSt : (Try.prog.info? 45).map (fun i => (i.zero, i.size, i.bytes)) = some (some (.int .i64 0), 1, 8) := by kernel_rfl

attribute [local go_sem high] run_max2f run_min2f

set_option maxHeartbeats 1000000 in
set_option maxRecDepth 100000 in
theorem slNew (n : Int) (u : Nat) (w : World) (hu : min (max n 0) 256 = (u : Int)) :
    Calls Try.prog 7 #[.int .i64 n] w fun e w' => ∃ s g, e = .returned (.pointer (some ⟨s, 0, none⟩)) ∧ IsSl s g (List.replicate u 0) w' ∧ KeptIn (· < w.heap.size) w w' ∧ w.heap.size ≤ s ∧ w.heap.size ≤ g := by
  obtain ⟨i0, hi, hz0, hz1, hz2⟩ := info1_parts infoSlSt
  have hu2 : u ≤ 256 := by omega
  go_enter Try.func7, Try.ntmps7
  go_wp2_with (at_make; refine wpList_make_full _ rfl _ _ 41 rfl w.heap.size 45 i0 _ 1 Try.underlying41 hi hz0 hz1 .i64 .i64 u u u rfl rfl rfl rfl (by rw [hz2]; omega) (by unfold maxLen; omega) (Nat.le_refl _) ?_; intro w1 hown hgrow)
  go_ret
  have hz := hgrow.size
  have hk1 : KeptIn (· < w.heap.size) w w1 := (KeptIn.refl _ w).grown (fun _ h => h) hgrow (by simp)
  have hrow : RowF 45 slV w.heap.size (List.replicate u 0) w1 := by
    refine rowF_made ?_
    have : (madeCells (Value.cells (.int .i64 0)) (u * 1)).toList = List.replicate u (slV 0) := made_one u
    rw [← this]
    exact hown
  refine ⟨w1.heap.size, w.heap.size, rfl, ⟨?_, ?_, by simpa using hu2⟩, hk1.alloc (fun _ h => h) _, hz, Nat.le_refl _⟩
  · rw [List.length_replicate]
    exact heap_alloc_new _ _
  · exact hrow.kept (Lib.alloc_old _ _ _ hrow.lt)

theorem low_lt {l : List Int} {x : Int} (h : 0 < l.count x) : l.idxOf x < l.length := List.idxOf_lt_length_of_mem (List.count_pos_iff.1 h)
theorem low_no {l : List Int} {x : Int} (h : l.count x = 0) : ¬ l.idxOf x < l.length := fun h' => by
  have := List.count_pos_iff.2 (List.idxOf_lt_length_iff.1 h')
  omega

theorem sluseNo (s g : Nat) (l : List Int) (w : World) (h : IsSl s g l w) (h0 : l.count 0 = 0) :
    Calls Try.prog 22 #[.pointer (some ⟨s, 0, none⟩)] w fun e w' => e = .returned (.tuple #[.int .i64 0, .int .i64 5]) ∧ w = w' := by
  have c0 := h.c0
  have H := slIndex 0 g l w h.row h.le
  rw [if_neg (low_no h0)] at H
  have HC := Lib.hid H
  clear H h0 h
  generalize l.length = n at *
  go_enter Try.func22, Try.ntmps22
  go_wp2_with (go_at_call 26; refine HC.out.mono ?_; rintro e w' ⟨rfl, rfl⟩)
  go_ret2
  exact ⟨rfl, rfl⟩

theorem sluseYes (s g : Nat) (l : List Int) (w : World) (h : IsSl s g l w) (h0 : 0 < l.count 0) :
    Calls Try.prog 22 #[.pointer (some ⟨s, 0, none⟩)] w fun e w' => e = .returned (.tuple #[.int .i64 (l.idxOf 0 : Nat), .int .i64 0]) ∧ IsSl s g (l.set (l.idxOf 0) 1) w' ∧ KeptIn (· ≠ g) w w' := by
  have c0 := h.c0
  have H := slIndex 0 g l w h.row h.le
  have hlt := low_lt h0
  rw [if_pos hlt] at H
  have HC := Lib.hid H
  obtain ⟨k, hk⟩ : ∃ k, l.idxOf 0 = k := ⟨_, rfl⟩
  have hn := h.le
  rw [hk] at HC hlt ⊢
  have e1 := h.row.cell k (sl_getD hlt)
  have f1 := h.row.fro k
  have HS := Lib.hid (h.set k 1)
  obtain ⟨n, hn'⟩ : ∃ n, l.length = n := ⟨_, rfl⟩
  rw [hn'] at hn HC c0 hlt
  have k0 : (0 : Int) ≤ (k : Int) := by omega
  have k1 : (k : Int) < (n : Int) := by omega
  clear H h0 h hk hn'
  generalize l.getD k 0 = y at *
  go_enter Try.func22, Try.ntmps22
  go_wp2_with (go_at_call 26; refine HC.out.mono ?_; rintro e w' ⟨rfl, rfl⟩)
  go_ret2
  exact ⟨rfl, HS.out, (KeptIn.refl _ _).setCell (p := ⟨g, k, none⟩) (by simp) _⟩

theorem slTakeNo (s g : Nat) (l : List Int) (w : World) (h : IsSl s g l w) (h0 : l.count 0 ≤ 1) :
    Calls Try.prog 9 #[.pointer (some ⟨s, 0, none⟩)] w fun e w' => e = .returned (.tuple #[.int .i64 0, .int .i64 5]) ∧ w = w' := by
  have H := slRoom s g l w h
  rw [show l.count 0 - 1 = 0 by omega] at H
  have HC := Lib.hid H
  clear H h h0
  go_enter Try.func9, Try.ntmps9
  go_wp2_with (go_at_call 19; refine HC.out.mono ?_; rintro e w' ⟨rfl, rfl⟩)
  go_ret2
  exact ⟨rfl, rfl⟩

theorem slTakeYes (s g : Nat) (l : List Int) (w : World) (h : IsSl s g l w) (h0 : 1 < l.count 0) :
    Calls Try.prog 9 #[.pointer (some ⟨s, 0, none⟩)] w fun e w' => e = .returned (.tuple #[.int .i64 (l.idxOf 0 : Nat), .int .i64 0]) ∧ IsSl s g (l.set (l.idxOf 0) 1) w' ∧ KeptIn (· ≠ g) w w' := by
  have HC := Lib.hid (slRoom s g l w h)
  have HU := Lib.hid (sluseYes s g l w h (by omega))
  have hne : ¬ ((l.count 0 - 1 : Nat) : Int) = 0 := by omega
  generalize l.count 0 - 1 = m at *
  clear h h0
  go_enter Try.func9, Try.ntmps9
  go_wp2_with (first | (go_at_call 19; refine HC.out.mono ?_; rintro e w' ⟨rfl, rfl⟩) | (go_at_call 22; refine HU.out.mono ?_; rintro e w' ⟨rfl, h1, h2⟩))
  go_ret2
  exact ⟨rfl, h1, h2⟩

theorem slMoveNo (s g : Nat) (l : List Int) (w : World) (h : IsSl s g l w) (h0 : l.count 0 = 0) :
    Calls Try.prog 10 #[.pointer (some ⟨s, 0, none⟩)] w fun e w' => e = .returned (.tuple #[.int .i64 0, .int .i64 5]) ∧ w = w' := by
  have HC := Lib.hid (sluseNo s g l w h h0)
  clear h h0
  go_enter Try.func10, Try.ntmps10
  go_wp2_with (go_at_call 22; refine HC.out.mono ?_; rintro e w' ⟨rfl, rfl⟩)
  go_ret2
  exact ⟨rfl, rfl⟩

theorem slMoveYes (s g : Nat) (l : List Int) (w : World) (h : IsSl s g l w) (h0 : 0 < l.count 0) :
    Calls Try.prog 10 #[.pointer (some ⟨s, 0, none⟩)] w fun e w' => e = .returned (.tuple #[.int .i64 (l.idxOf 0 : Nat), .int .i64 0]) ∧ IsSl s g (l.set (l.idxOf 0) 1) w' ∧ KeptIn (· ≠ g) w w' := by
  have HU := Lib.hid (sluseYes s g l w h h0)
  clear h h0
  go_enter Try.func10, Try.ntmps10
  go_wp2_with (go_at_call 22; refine HU.out.mono ?_; rintro e w' ⟨rfl, h1, h2⟩)
  go_ret2
  exact ⟨rfl, h1, h2⟩

theorem slTakeNil (w : World) : Calls Try.prog 9 #[.pointer none] w fun e w' => e = .returned (.tuple #[.int .i64 0, .int .i64 2]) ∧ w = w' := by
  go_enter Try.func9, Try.ntmps9
  go_wp2
  go_ret2
  exact ⟨rfl, rfl⟩
theorem slMoveNil (w : World) : Calls Try.prog 10 #[.pointer none] w fun e w' => e = .returned (.tuple #[.int .i64 0, .int .i64 2]) ∧ w = w' := by
  go_enter Try.func10, Try.ntmps10
  go_wp2
  go_ret2
  exact ⟨rfl, rfl⟩
theorem slGiveNil (i : Int) (w : World) : Calls Try.prog 12 #[.pointer none, .int .i64 i] w fun e w' => e = .returned (.int .i64 2) ∧ w = w' := by
  go_enter Try.func12, Try.ntmps12
  go_wp2
  go_ret
  exact ⟨rfl, rfl⟩
theorem slMarkNil (i : Int) (w : World) : Calls Try.prog 16 #[.pointer none, .int .i64 i] w fun e w' => e = .returned (.int .i64 2) ∧ w = w' := by
  go_enter Try.func16, Try.ntmps16
  go_wp2
  go_ret
  exact ⟨rfl, rfl⟩
theorem slCommitNil (w : World) : Calls Try.prog 14 #[.pointer none] w fun e w' => e = .returned (.tuple #[]) ∧ w = w' := by
  go_enter Try.func14, Try.ntmps14
  go_wp2
  refine bodyPost_ret (results_none rfl _ _ _) rfl ?_
  exact ⟨rfl, rfl⟩
theorem slUsedNil (w : World) : Calls Try.prog 21 #[.pointer none] w fun e w' => e = .returned (.slice none 0 0) ∧ w = w' := by
  go_enter Try.func21, Try.ntmps21
  go_wp2
  go_ret
  exact ⟨rfl, rfl⟩

/-- What giving a slot answers, and leaves. -/
def giveE (l : List Int) (i : Int) : Int := if slIn l.length i = true then (if slUse (l.getD i.toNat 0) = true then 0 else 7) else 1
def giveL (l : List Int) (i : Int) : List Int := if giveE l i = 0 then l.set i.toNat (if l.getD i.toNat 0 = 2 then 3 else 0) else l

theorem slGive (i : Int) (s g : Nat) (l : List Int) (w : World) (h : IsSl s g l w) :
    Calls Try.prog 12 #[.pointer (some ⟨s, 0, none⟩), .int .i64 i] w fun e w' => e = .returned (.int .i64 (giveE l i)) ∧ IsSl s g (giveL l i) w' ∧ KeptIn (· ≠ g) w w' := by
  have c0 := h.c0
  have CH := slHas i s g l w h
  have H := Lib.hid h
  by_cases hin : slIn l.length i = true
  · rw [hin] at CH
    have HCH := Lib.hid CH
    have h2 : 0 ≤ i ∧ i < l.length := by simpa [slIn] using hin
    obtain ⟨k, rfl⟩ : ∃ k : Nat, i = (k : Int) := ⟨i.toNat, by omega⟩
    have hkl : k < l.length := by omega
    have e1 := h.row.cell k (sl_getD hkl)
    have f1 := h.row.fro k
    have CS := slSt (l.getD k 0) w
    by_cases hu : slUse (l.getD k 0) = true
    · rw [hu] at CS
      have HCS := Lib.hid CS
      by_cases ht : l.getD k 0 = 2
      · have HE : Hid (giveE l k = 0 ∧ giveL l k = l.set k 3) := Lib.hid (by
          have : giveE l (k : Int) = 0 := by unfold giveE; rw [if_pos hin, Int.toNat_natCast, if_pos hu]
          exact ⟨this, by unfold giveL; rw [if_pos this, Int.toNat_natCast, if_pos ht]⟩)
        rw [HE.out.1, HE.out.2]
        have HS := Lib.hid (h.set k 3)
        have hn := h.le
        clear h hin h2 hu
        generalize l.length = n at *
        generalize hy : l.getD k 0 = y at *
        subst ht
        have k0 : (0 : Int) ≤ (k : Int) := by omega
        have k1 : (k : Int) < (n : Int) := by omega
        clear hkl hy
        go_enter Try.func12, Try.ntmps12
        go_wp2_with (first | (go_at_call 23; refine HCH.out.mono ?_; rintro e w' ⟨rfl, rfl⟩) | (go_at_call 24; refine HCS.out.mono ?_; rintro e w' ⟨rfl, rfl⟩))
        go_ret
        exact ⟨rfl, HS.out, (KeptIn.refl _ _).setCell (p := ⟨g, k, none⟩) (by simp) _⟩
      · have HE : Hid (giveE l k = 0 ∧ giveL l k = l.set k 0) := Lib.hid (by
          have : giveE l (k : Int) = 0 := by unfold giveE; rw [if_pos hin, Int.toNat_natCast, if_pos hu]
          exact ⟨this, by unfold giveL; rw [if_pos this, Int.toNat_natCast, if_neg ht]⟩)
        rw [HE.out.1, HE.out.2]
        have HS := Lib.hid (h.set k 0)
        have hn := h.le
        clear h hin h2 hu
        generalize l.length = n at *
        generalize hy : l.getD k 0 = y at *
        have k0 : (0 : Int) ≤ (k : Int) := by omega
        have k1 : (k : Int) < (n : Int) := by omega
        clear hkl hy
        go_enter Try.func12, Try.ntmps12
        go_wp2_with (first | (go_at_call 23; refine HCH.out.mono ?_; rintro e w' ⟨rfl, rfl⟩) | (go_at_call 24; refine HCS.out.mono ?_; rintro e w' ⟨rfl, rfl⟩))
        go_ret
        exact ⟨rfl, HS.out, (KeptIn.refl _ _).setCell (p := ⟨g, k, none⟩) (by simp) _⟩
    · rw [Bool.not_eq_true] at hu
      rw [hu] at CS
      have HCS := Lib.hid CS
      have HE : Hid (giveE l k = 7 ∧ giveL l k = l) := Lib.hid (by
        have : giveE l (k : Int) = 7 := by unfold giveE; rw [if_pos hin, Int.toNat_natCast, hu]; rfl
        exact ⟨this, by unfold giveL; rw [if_neg (by rw [this]; decide)]⟩)
      rw [HE.out.1, HE.out.2]
      have hn := h.le
      clear h hin h2 hu
      obtain ⟨n, hn'⟩ : ∃ n, l.length = n := ⟨_, rfl⟩
      rw [hn'] at c0 hn hkl
      generalize hy : l.getD k 0 = y at *
      have k0 : (0 : Int) ≤ (k : Int) := by omega
      have k1 : (k : Int) < (n : Int) := by omega
      clear hkl hy hn'
      go_enter Try.func12, Try.ntmps12
      go_wp2_with (first | (go_at_call 23; refine HCH.out.mono ?_; rintro e w' ⟨rfl, rfl⟩) | (go_at_call 24; refine HCS.out.mono ?_; rintro e w' ⟨rfl, rfl⟩))
      go_ret
      exact ⟨rfl, H.out, .refl _ _⟩
  · have hin' := hin
    rw [Bool.not_eq_true] at hin
    rw [hin] at CH
    have HCH := Lib.hid CH
    have HE : Hid (giveE l i = 1 ∧ giveL l i = l) := Lib.hid (by
      have : giveE l i = 1 := by unfold giveE; rw [if_neg hin']
      exact ⟨this, by unfold giveL; rw [if_neg (by rw [this]; decide)]⟩)
    rw [HE.out.1, HE.out.2]
    clear h hin hin' c0
    go_enter Try.func12, Try.ntmps12
    go_wp2_with (go_at_call 23; refine HCH.out.mono ?_; rintro e w' ⟨rfl, rfl⟩)
    go_ret
    exact ⟨rfl, H.out, .refl _ _⟩

end Go.Proofs.Yteppjjgnkjkfhaa
