import Derived.Test.YtkgjmejgkffbdaaGreatDoorM8
import Derived.OpenShut
import Derived.BigRegion
/- Strings made rows of bytes, and back. Of package octet's seats. -/
set_option linter.unusedVariables false
namespace Go.Proofs.YtkgjmejgkffbdaaGreatDoor
open Go.RowKit

/-- The bytes u stand from block g's first cell on, and may be written. -/
def Has (W : World) (g : Nat) (u : List UInt8) : Prop := ∀ j b, u[j]? = some b → W.cell? ⟨g, j, none⟩ = some (.int .u8 b.toNat) ∧ W.frozen? ⟨g, j, none⟩ = false

theorem Has.set {W : World} {g : Nat} {p d : List UInt8} {x : UInt8} (h : Has W g (p ++ x :: d)) (v : UInt8) : Has (W.setCell ⟨g, p.length, none⟩ (.int .u8 v.toNat)) g (p ++ v :: d) := by
  intro j b hj
  by_cases e : j = p.length
  · subst e
    obtain ⟨h1, h2⟩ := h p.length x (by simp)
    obtain rfl : v = b := by simpa using hj
    exact ⟨World.cell?_setCell_same _ _ _ h1, by rw [World.frozen?_setCell]; exact h2⟩
  · obtain ⟨h1, h2⟩ := h j b (by
      rw [← hj]
      rcases Nat.lt_or_ge j p.length with hl | hl
      · rw [List.getElem?_append_left hl, List.getElem?_append_left hl]
      · rw [List.getElem?_append_right hl, List.getElem?_append_right hl]
        obtain ⟨i, hi⟩ : ∃ i, j - p.length = i + 1 := ⟨j - p.length - 1, by omega⟩
        rw [hi, List.getElem?_cons_succ, List.getElem?_cons_succ])
    exact ⟨by rw [World.cell?_setCell_other _ _ _ _ (by intro h; cases h; exact e rfl)]; exact h1, by rw [World.frozen?_setCell]; exact h2⟩

theorem conv_has (t : List UInt8) (w : World) : ∃ cap W, (convert 9 77 (.string ⟨t.toArray⟩)).run Tryz.prog w = .ok (.slice (some ⟨w.heap.size, 0, none⟩) t.length cap) W ∧
    Has W w.heap.size t ∧ KeptIn (· < w.heap.size) w W := by
  refine ⟨_, _, run_bytes_of_string w 9 77 5 ⟨t.toArray⟩ (by kernel_rfl) (by kernel_rfl) (by kernel_rfl), ?_, (KeptIn.refl _ _).drew.alloc (fun _ h => h) _⟩
  intro i b hb
  obtain ⟨hi, rfl⟩ := List.getElem?_eq_some_iff.1 hb
  have hr := bytesRow_at ⟨t.toArray⟩ (grownCap w (⟨t.toArray⟩ : ByteArray).size 0 5) i (by simpa using hi)
  constructor
  · show World.cell? _ ⟨w.drew.heap.size, i, none⟩ = _
    rw [Lib.cell_of_heap (heap_alloc_new w.drew _)]
    simpa using hr
  · have hsz : i < (bytesRow ⟨t.toArray⟩ (grownCap w (⟨t.toArray⟩ : ByteArray).size 0 5)).size := (Array.getElem?_eq_some_iff.1 hr).1
    show World.frozen? _ ⟨w.drew.heap.size, i, none⟩ = _
    unfold World.frozen?
    rw [heap_alloc_new w.drew _]
    simp only [Bool.and_eq_false_iff, decide_eq_false_iff_not]
    left
    omega

/-- 'string(b)' of bytes that stand in a row. -/
theorem conv_back (u : List UInt8) (g cap : Nat) (W : World) (h : Has W g u) : (convert 77 9 (.slice (some ⟨g, 0, none⟩) u.length cap)).run Tryz.prog W = .ok (.string ⟨u.toArray⟩) W := by
  refine run_convert_bytes_back (P := Tryz.prog) W 77 9 5 ⟨g, 0, none⟩ cap u (by kernel_rfl) (by kernel_rfl) (by kernel_rfl) ?_
  intro j hj
  have hadd : (⟨g, 0, none⟩ : Addr).add j = ⟨g, j, none⟩ := by unfold Addr.add; split <;> simp_all
  rw [hadd]
  exact (h j _ (List.getElem?_eq_getElem hj)).1

end Go.Proofs.YtkgjmejgkffbdaaGreatDoor
