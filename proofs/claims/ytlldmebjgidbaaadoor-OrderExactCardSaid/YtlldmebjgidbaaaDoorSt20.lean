/- Strings as lists of bytes, in the walks' own forms; conversions of small slices. -/
import Derived.Test.YtlldmebjgidbaaaDoorAw20
import Derived.OpenShut
import Derived.Laws.IdiomStrings
set_option linter.unusedVariables false
set_option linter.unusedSimpArgs false
namespace Go.Proofs.YtlldmebjgidbaaaDoor
open Go.RowKit

theorem ex_of (l m : List UInt8) (a b : Nat) (h : (l.drop a).take (b - a) = m) : (⟨l.toArray⟩ : ByteArray).extract a b = ⟨m.toArray⟩ := by
  have e := Lib.extract_data ⟨l.toArray⟩ a b
  rw [show (⟨l.toArray⟩ : ByteArray).data.toList = l by simp, h] at e
  rw [← Lib.mk_data ((⟨l.toArray⟩ : ByteArray).extract a b), e]
theorem ex_one (l : List UInt8) (j : Nat) (x : UInt8) (h : l[j]? = some x) : (⟨l.toArray⟩ : ByteArray).extract j (j + 1) = ⟨#[x]⟩ := by
  refine ex_of l [x] j (j + 1) ?_
  rw [show j + 1 - j = 1 by omega, List.take_one, List.head?_drop, h]
  rfl
theorem app_of (s t : List UInt8) : (⟨s.toArray⟩ : ByteArray) ++ ⟨t.toArray⟩ = ⟨(s ++ t).toArray⟩ := by
  apply ByteArray.ext
  simp

theorem conv_cells (l : List UInt8) (g : Nat) (w : World) (h : w.heap[g]? = some (.cells (Lib.byteCells l).toArray 5 (0, 0))) :
    (convert 98 9 (.slice (some ⟨g, 0, none⟩) l.length l.length)).run Tryd.prog w = .ok (.string ⟨l.toArray⟩) w := by
  refine run_convert_bytes_back (P := Tryd.prog) w 98 9 5 ⟨g, 0, none⟩ l.length l (by kernel_rfl) (by kernel_rfl) (by kernel_rfl) ?_
  intro j hj
  have hadd : (⟨g, 0, none⟩ : Addr).add j = ⟨g, j, none⟩ := by unfold Addr.add; split <;> simp_all
  rw [hadd, Lib.cell_of_heap h]
  simp [Lib.byteCells, hj]

/-- 'string([]byte{x})' and 'string([]byte{x, y, z})', of a slice just made. -/
theorem conv_1 (x : UInt8) (w : World) : (convert 98 9 (.slice (some ⟨w.heap.size, 0, none⟩) 1 1)).run Tryd.prog (w.alloc (.cells #[.int .u8 x.toNat] 5)) = .ok (.string ⟨#[x]⟩) (w.alloc (.cells #[.int .u8 x.toNat] 5)) :=
  conv_cells [x] w.heap.size _ (heap_alloc_new _ _)
theorem conv_3 (x y z : UInt8) (w : World) : (convert 98 9 (.slice (some ⟨w.heap.size, 0, none⟩) 3 3)).run Tryd.prog (w.alloc (.cells #[.int .u8 x.toNat, .int .u8 y.toNat, .int .u8 z.toNat] 5)) = .ok (.string ⟨#[x, y, z]⟩) (w.alloc (.cells #[.int .u8 x.toNat, .int .u8 y.toNat, .int .u8 z.toNat] 5)) :=
  conv_cells [x, y, z] w.heap.size _ (heap_alloc_new _ _)

end Go.Proofs.YtlldmebjgidbaaaDoor
