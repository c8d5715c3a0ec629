/- tiercelaw18.fill: so many sectors of a byte. -/
import Derived.Test.YtmfnapbahkonhaaMb4
import Derived.LoopTactic
set_option linter.unusedVariables false
namespace Go.Proofs.Ytmfnapbahkonhaa
open Go.RowKit

set_option maxHeartbeats 1000000 in
set_option maxRecDepth 100000 in
theorem lFill (x : UInt8) (n k : Nat) (hk : 16 * n = k) (hn : n ≤ 1000) (w : World) :
    Calls Try.prog 21 #[.int .u8 x.toNat, .int .i64 n] w fun e w' => e = .returned (.string ⟨(List.replicate k x).toArray⟩) ∧ KeptIn (· < w.heap.size) w w' := by
  obtain ⟨i0, hi, hz0, hz1, hz2⟩ := info_parts infoByte
  obtain ⟨v, hv⟩ : ∃ v : Int, (x.toNat : Int) = v := ⟨_, rfl⟩
  have HV := Lib.hid hv
  rw [hv]
  obtain ⟨out, hout⟩ : ∃ o, List.replicate k x = o := ⟨_, rfl⟩
  rw [hout]
  have HO := Lib.hid hout
  have HE : Hid (wrap64 (16 * (n : Int)) = (k : Int) ∧ 16 * (n : Int) = (k : Int)) := Lib.hid ⟨by unfold wrap64; omega, by omega⟩
  have HK : Hid (k ≤ 16000) := Lib.hid (by omega)
  have hkI : (k : Int) ≤ 16000 := by omega
  clear hv hout hk hn
  go_enter Try.func21, Try.ntmps21
  go_wp2_with (at_make; refine wpList_make_full _ rfl _ _ 84 rfl w.heap.size 5 i0 _ 1 Try.underlying84 hi hz0 hz1 .i64 .i64 _ _ k rfl rfl (by first | exact HE.out.1 | exact HE.out.2) (by first | exact HE.out.1 | exact HE.out.2) (by rw [hz2]; have := HK.out; omega) (by have := HK.out; unfold maxLen; omega) (Nat.le_refl _) ?_)
  intro w1 hown hgrow
  have hb : w1.heap[w.heap.size]? = some (.cells (Lib.byteCells (halfN k x 0)).toArray 5 (0, 0)) := by
    rcases hown.2 with ⟨h1, _⟩ | ⟨g, cap, cur, h1, _, h2, _, _, h3, h4⟩
    · cases h1
    · simp only [Value.slice.injEq, Option.some.injEq, Addr.mk.injEq, and_true, true_and] at h1
      obtain ⟨rfl, rfl⟩ := h1
      rw [h2]
      rw [List.take_of_length_le (by rw [Array.length_toList, h3]; omega)] at h4
      have e : (madeCells #[.int .u8 0] k).toList = Lib.byteCells (halfN k x 0) := by rw [made_bytes]; simp [Lib.byteCells, halfN]
      have : cur = (Lib.byteCells (halfN k x 0)).toArray := Array.toList_inj.1 (h4.trans e)
      rw [this]
  have hk : KeptIn (· < w.heap.size) w w1 := (KeptIn.refl _ w).grown (fun _ h => h) hgrow (by simp)
  have HJ0 : Hid (w1.heap[w.heap.size]? = some (.cells (Lib.byteCells (halfN k x 0)).toArray 5 (0, 0)) ∧ KeptIn (· < w.heap.size) w w1) := Lib.hid ⟨hb, hk⟩
  clear hown hgrow hb hk hi hz0 hz1 hz2 HE
  obtain ⟨r, hr⟩ : ∃ r, w.heap.size = r := ⟨_, rfl⟩
  rw [hr] at HJ0 ⊢
  go_wp2_with fail
  go_loopw [6] (fun c wr => ∃ (j : Nat) (W : World), W = wr ∧ j ≤ k ∧ c = .int .i64 j ∧ Hid (W.heap[r]? = some (.cells (Lib.byteCells (halfN k x j)).toArray 5 (0, 0)) ∧ KeptIn (· < r) w W)) (fun c _ => k - (RowKit.intOf c).toNat)
  case atStart => exact ⟨0, w1, rfl, Nat.zero_le _, rfl, HJ0⟩
  case round =>
    obtain ⟨j, W, rfl, hj, rfl, HJ⟩ := hrel
    clear HJ0
    have hsz : (Lib.byteCells (halfN k x j)).toArray.size = k := by rw [List.size_toArray, Lib.byteCells_length]; simp [halfN]; omega
    by_cases hlt : j < k
    · have b0 : (0 : Int) ≤ (j : Int) := by omega
      have b1 : (j : Int) < (k : Int) := by omega
      obtain ⟨u, hu⟩ : ∃ u, W.cell? ⟨r, j, none⟩ = some u := by
        rw [cell_of_row W r j _ _ _ HJ.out.1]
        exact ⟨_, Array.getElem?_eq_getElem (by rw [hsz]; exact hlt)⟩
      have f0 : W.frozen? ⟨r, j, none⟩ = false := frozen_of_row W r j _ _ HJ.out.1
      clear hsz
      have HJ2 : Hid ((W.setCell ⟨r, j, none⟩ (.int .u8 v)).heap[r]? = some (.cells (Lib.byteCells (halfN k x (j + 1))).toArray 5 (0, 0)) ∧ KeptIn (· < r) w (W.setCell ⟨r, j, none⟩ (.int .u8 v))) := Lib.hid ⟨by
        rw [heap_setCell_same _ _ _ _ _ _ HJ.out.1, ← HV.out, halfN_set k x j hlt], HJ.out.2.setCell (by simp) _⟩
      clear HJ
      go_wp2
      go_roundw
      case rel => exact ⟨j + 1, _, rfl, by omega, by go_num, HJ2⟩
      case measure => simp [RowKit.intOf]; omega
    · obtain rfl : j = k := by omega
      have hcv : (convert 84 9 (.slice (some ⟨r, 0, none⟩) j j)).run Try.prog W = .ok (.string ⟨out.toArray⟩) W := by
        have hol : out.length = j := by rw [← HO.out]; simp
        have h := run_convert_bytes_back (P := Try.prog) W 84 9 5 ⟨r, 0, none⟩ j out Try.underlying84 Try.underlying5 Try.underlying9 (fun i hi => by
          rw [Addr.add_mid, Nat.zero_add, cell_of_row W r i _ _ _ HJ.out.1, halfN_full, HO.out]
          simp only [Lib.byteCells, List.getElem?_toArray, List.getElem?_map, List.getElem?_eq_getElem hi]
          rfl)
        rw [hol] at h
        exact h
      have HKK := Lib.hid HJ.out.2
      clear HJ hsz
      go_wp2
      go_ret
      exact ⟨rfl, by rw [hr]; exact HKK.out⟩

end Go.Proofs.Ytmfnapbahkonhaa
