/- Bytes that were made. -/
import Derived.Test.YtmfnapbahkonhaaDnew
import Derived.Laws.IdiomStrings
set_option linter.unusedVariables false
namespace Go.Proofs.Ytmfnapbahkonhaa
open Go.RowKit

theorem infoByte : (Try.prog.info? 5).map (fun i => (i.zero, i.size, i.bytes)) = some (some (.int .u8 0), 1, 1) := by kernel_rfl

theorem made_bytes (n : Nat) : (madeCells #[.int .u8 0] n).toList = List.replicate n (.int .u8 0) := by
  rw [List.eq_replicate_iff]
  refine ⟨by simp [madeCells], fun b hb => ?_⟩
  unfold madeCells at hb
  rw [Array.toList_map, List.mem_map] at hb
  obtain ⟨i, _, rfl⟩ := hb
  rw [show i % (#[Value.int .u8 0] : Array Value).size = 0 from Nat.mod_one i]
  rfl

/-- The first j of n bytes are x, the others zeros. -/
def halfN (n : Nat) (x : UInt8) (j : Nat) : List UInt8 := List.replicate j x ++ List.replicate (n - j) 0

theorem halfN_set (n : Nat) (x : UInt8) (j : Nat) (h : j < n) : (Lib.byteCells (halfN n x j)).toArray.setIfInBounds j (.int .u8 x.toNat) = (Lib.byteCells (halfN n x (j + 1))).toArray := by
  rw [List.setIfInBounds_toArray]
  congr 1
  simp only [halfN, Lib.byteCells, List.map_append, List.map_replicate]
  rw [List.set_append_right _ _ (by simp), List.length_replicate, Nat.sub_self, show n - j = (n - (j + 1)) + 1 by omega, List.replicate_succ, List.set_cons_zero, List.replicate_succ' (n := j)]
  simp
theorem halfN_full (n : Nat) (x : UInt8) : halfN n x n = List.replicate n x := by simp [halfN]

end Go.Proofs.Ytmfnapbahkonhaa
