/- tierceref04.Zeros. -/
import Derived.Test.YtmfnapbahkonhaaMb4
set_option linter.unusedVariables false
namespace Go.Proofs.Ytmfnapbahkonhaa
open Go.RowKit

attribute [local go_sem high] run_max2 run_min2

set_option maxHeartbeats 1000000 in
set_option maxRecDepth 100000 in
theorem r4Zeros (n : Int) (u : Nat) (w : World) (hu : min (max n 0) 16384 = (u : Int)) :
    Calls Try.prog 18 #[.int .i64 n] w fun e w' => e = .returned (.string ⟨(List.replicate (16 * u) (0 : UInt8)).toArray⟩) ∧ KeptIn (· < w.heap.size) w w' := by
  obtain ⟨i0, hi, hz0, hz1, hz2⟩ := info_parts infoByte
  have hu2 : u ≤ 16384 := by omega
  obtain ⟨k, hk⟩ : ∃ k, 16 * u = k := ⟨_, rfl⟩
  have HE : Hid (16 * (u : Int) = (k : Int)) := Lib.hid (by omega)
  have HK : Hid (k ≤ 262144) := Lib.hid (by omega)
  rw [hk]
  clear hk hu2
  obtain ⟨out, hout⟩ : ∃ o, List.replicate k (0 : UInt8) = o := ⟨_, rfl⟩
  rw [hout]
  have HO := Lib.hid hout; clear hout
  go_enter Try.func18, Try.ntmps18
  go_wp2_with (at_make; refine wpList_make_full _ rfl _ _ 84 rfl w.heap.size 5 i0 _ 1 Try.underlying84 hi hz0 hz1 .i64 .i64 (16 * (u : Int)) (16 * (u : Int)) k rfl rfl HE.out HE.out (by rw [hz2]; have := HK.out; omega) (by have := HK.out; unfold maxLen; omega) (Nat.le_refl _) ?_)
  intro w1 hown hgrow
  have hb : w1.heap[w.heap.size]? = some (.cells (Lib.byteCells out).toArray 5 (0, 0)) := by
    rcases hown.2 with ⟨h1, _⟩ | ⟨g, cap, cur, h1, _, h2, _, _, h3, h4⟩
    · cases h1
    · simp only [Value.slice.injEq, Option.some.injEq, Addr.mk.injEq, and_true, true_and] at h1
      obtain ⟨rfl, rfl⟩ := h1
      rw [h2]
      rw [List.take_of_length_le (by rw [Array.length_toList, h3]; omega)] at h4
      have e : (madeCells #[.int .u8 0] k).toList = Lib.byteCells out := by rw [made_bytes, ← HO.out]; simp [Lib.byteCells]
      have : cur = (Lib.byteCells out).toArray := Array.toList_inj.1 (h4.trans e)
      rw [this]
  have hlen : out.length = k := by rw [← HO.out]; simp
  have hcv : (convert 84 9 (.slice (some ⟨w.heap.size, 0, none⟩) k k)).run Try.prog w1 = .ok (.string ⟨out.toArray⟩) w1 := by
    have h := run_convert_bytes_back (P := Try.prog) w1 84 9 5 ⟨w.heap.size, 0, none⟩ k out Try.underlying84 Try.underlying5 Try.underlying9 (fun j hj => by
      rw [Addr.add_mid, Nat.zero_add, cell_of_row w1 _ j _ _ _ hb]
      simp only [Lib.byteCells, List.getElem?_toArray, List.getElem?_map, List.getElem?_eq_getElem hj]
      rfl)
    rw [hlen] at h
    exact h
  have hkk : KeptIn (· < w.heap.size) w w1 := (KeptIn.refl _ w).grown (fun _ h => h) hgrow (by simp)
  have HKK := Lib.hid hkk
  clear hown hgrow hb hlen hkk hi hz0 hz1 hz2
  go_wp2
  go_ret
  exact ⟨rfl, HKK.out⟩

end Go.Proofs.Ytmfnapbahkonhaa
