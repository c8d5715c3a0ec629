/- awake of layer 16; and form: the document's items. -/
import Derived.Test.YtjhmcfhbjfjmkaaUs16
set_option linter.unusedVariables false
namespace Go.Proofs.Ytjhmcfhbjfjmkaa
open Go.RowKit

def three16 : List It16 := [⟨1, 3, 0, false, false⟩, ⟨2, 0, 1, false, false⟩, ⟨3, 0, 0, true, false⟩]
theorem three_a : wn three16 1 0 = (3, 1, true) := by decide +kernel
theorem three_b : wn three16 0 0 = (2, 0, true) := by decide +kernel
theorem three_c : (pk (upL three16) 5).ch = 3 := by decide +kernel
theorem three_d : (pk (dnL three16) 0).ch = 2 := by decide +kernel
theorem three_g : ∀ x ∈ three16, GdI x := by
  intro x hx
  unfold three16 at hx
  simp only [List.mem_cons, List.not_mem_nil, or_false] at hx
  rcases hx with rfl | rfl | rfl <;> exact ⟨by decide, by decide, by decide⟩
theorem three_is {W : World} {b : Nat} {T : TypeId} (h : W.heap[b]? = some (.cells (cellsI three16).toArray T (0, 0))) : IsI W (some ⟨b, 0, none⟩) three16 := by
  refine ⟨by unfold maxLen; decide, three_g, fun _ => ⟨b, 0, rfl, (Array.getElem?_eq_some_iff.1 h).1, fun i hi => ?_⟩⟩
  obtain ⟨h1, h2, h3, h4, h5⟩ := cellsI_at three16 i hi
  rw [Nat.zero_add]
  refine ⟨?_, ?_, ?_, ?_, ?_⟩ <;> rw [cell_of_row _ _ _ _ _ _ h]
  · simpa using h1
  · simpa using h2
  · simpa using h3
  · simpa using h4
  · simpa using h5

set_option maxHeartbeats 2000000 in
set_option maxRecDepth 100000 in
theorem awake16 (w : World) : Calls Try.prog 6 #[] w fun e w' => e = .returned (.bool true) ∧ KeptIn (· < w.heap.size) w w' := by
  have hk := keptNew w (.cells (cellsI three16).toArray 35)
  have hi := three_is (heap_alloc_new w (.cells (cellsI three16).toArray 35))
  obtain ⟨W, hW⟩ : ∃ W, w.alloc (.cells (cellsI three16).toArray 35) = W := ⟨_, rfl⟩
  obtain ⟨b, hb⟩ : ∃ b, w.heap.size = b := ⟨_, rfl⟩
  rw [hb] at hi
  rw [hW] at hi hk
  have hl : three16.length ≤ 1000 := by decide
  have HA := Lib.hid (show ∀ V, KeptIn (· < W.heap.size) W V → Calls Try.prog 10 #[.slice (some ⟨b, 0, none⟩) 3 3, .int .i64 1, .int .i64 0] V (WnS V (3, 1, true)) from fun V h => by rw [← three_a]; exact rkWants _ 3 three16 1 0 V (hi.old h) hl)
  have HB := Lib.hid (show ∀ V, KeptIn (· < W.heap.size) W V → Calls Try.prog 10 #[.slice (some ⟨b, 0, none⟩) 3 3, .int .i64 0, .int .i64 0] V (WnS V (2, 0, true)) from fun V h => by rw [← three_b]; exact rkWants _ 3 three16 0 0 V (hi.old h) hl)
  have HC := Lib.hid (show ∀ V, KeptIn (· < W.heap.size) W V → Calls Try.prog 12 #[.slice (some ⟨b, 0, none⟩) 3 3, .int .i64 5] V (InS V 3) from fun V h => by rw [← three_c]; exact rkUp _ 3 three16 5 V (hi.old h) hl)
  have HD := Lib.hid (show ∀ V, KeptIn (· < W.heap.size) W V → Calls Try.prog 14 #[.slice (some ⟨b, 0, none⟩) 3 3, .int .i64 0] V (InS V 2) from fun V h => by rw [← three_d]; exact rkDown _ 3 three16 0 V (hi.old h) hl)
  have H1 := Lib.hid (show ∀ V, Calls Try.prog 8 #[.int .i64 64] V fun e w' => e = .returned (.int .i64 7) ∧ w' = V from fun V => rkLevel 64 (by decide) V)
  have H2 := Lib.hid (show ∀ V, Calls Try.prog 8 #[.int .i64 3] V fun e w' => e = .returned (.int .i64 2) ∧ w' = V from fun V => rkLevel 3 (by decide) V)
  have H3 := Lib.hid (show ∀ V, Calls Try.prog 8 #[.int .i64 0] V fun e w' => e = .returned (.int .i64 0) ∧ w' = V from fun V => rkLevel 0 (by decide) V)
  have HK := Lib.hid hk
  have HW := Lib.hid (show w.alloc (.cells #[.int .i64 1, .int .i64 3, .int .i64 0, .bool false, .bool false, .int .i64 2, .int .i64 0, .int .i64 1, .bool false, .bool false, .int .i64 3, .int .i64 0, .int .i64 0, .bool true, .bool false] 35) = W from hW)
  have HY := Lib.hid hb
  clear hk hi hW hb hl
  go_enter Try.func6, Try.ntmps6
  go_wp2_with fail
  rw [HW.out]
  simp only [HY.out]
  refine (HA.out W (KeptIn.refl _ W)).mono ?_
  rintro e V1 ⟨rfl, k1⟩
  have K1 := Lib.hid k1
  clear HA k1
  go_wp2_with fail
  refine (HB.out V1 K1.out).mono ?_
  rintro e V2 ⟨rfl, k2⟩
  have K2 := Lib.hid (K1.out.on16 k2)
  clear HB K1 k2
  go_wp2_with fail
  refine (H1.out _).mono ?_
  rintro e _ ⟨rfl, rfl⟩
  go_wp2_with fail
  refine (H2.out _).mono ?_
  rintro e _ ⟨rfl, rfl⟩
  go_wp2_with fail
  refine (H3.out _).mono ?_
  rintro e _ ⟨rfl, rfl⟩
  go_wp2_with fail
  refine (HC.out _ K2.out).mono ?_
  rintro e V3 ⟨rfl, k3⟩
  have K3 := Lib.hid (K2.out.on16 k3)
  clear HC K2 k3
  go_wp2_with fail
  refine (HD.out _ K3.out).mono ?_
  rintro e V4 ⟨rfl, k4⟩
  have K4 := Lib.hid (HK.out.on16 (K3.out.on16 k4))
  clear HD K3 k4
  go_wp2_with fail
  go_ret
  exact ⟨rfl, K4.out⟩

end Go.Proofs.Ytjhmcfhbjfjmkaa
