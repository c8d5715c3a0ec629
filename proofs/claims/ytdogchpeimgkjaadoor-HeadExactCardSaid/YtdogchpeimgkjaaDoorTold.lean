/- What was turned within four bytes isn't opened; what wasn't is opened as it was. -/
import Derived.Test.YtdogchpeimgkjaaDoorTurn
import Derived.Test.YtdogchpeimgkjaaDoorCopen
set_option linter.unusedVariables false
namespace Go.Proofs.YtdogchpeimgkjaaDoor
open Go.RowKit

theorem open_crc (u : List UInt8) (h : 4 ≤ u.length) : openIs u = true ↔ crc u 4294967295 = fulls 4 4294967295 := by
  have hq : (u.drop (u.length - 4)).length = 4 := by rw [List.length_drop]; omega
  have hu : u = u.take (u.length - 4) ++ u.drop (u.length - 4) := (List.take_append_drop ..).symm
  generalize u.take (u.length - 4) = p at *
  generalize u.drop (u.length - 4) = q at *
  subst hu
  rw [openIs_append p q hq, decide_eq_true_iff]
  exact opened_iff p q hq

theorem seal_opens (l : List UInt8) : openIs (sealOf l) = true := by
  unfold sealOf
  rw [openIs_append _ _ (bytesLE_length ..), decide_eq_true_iff, numLE_bytesLE]
  exact Nat.mod_eq_of_lt (sumOf_lt l)
theorem seal_opened (l : List UInt8) : openOf (sealOf l) = l := by
  unfold openOf
  rw [seal_opens, if_pos rfl]
  unfold sealOf
  rw [List.length_append, bytesLE_length, Nat.add_sub_cancel, List.take_left' rfl]

theorem told (l : List UInt8) (k m : Nat) (hk : k ≤ l.length) (hm : m < 4294967296) :
    openIs (turn (sealOf l) k m 4) = decide (m = 0) ∧ (m = 0 → openOf (turn (sealOf l) k m 4) = l) := by
  obtain ⟨p, q, q', r, h1, h2, hq, hq', hx⟩ := turn_four (sealOf l) k m (by rw [sealOf_length]; omega) hm
  have hlen : 4 ≤ (turn (sealOf l) k m 4).length := by rw [h2]; simp [hq']; omega
  have hl : 4 ≤ (sealOf l).length := by rw [sealOf_length]; omega
  have hs := (open_crc _ hl).1 (seal_opens l)
  constructor
  · rw [Bool.eq_iff_iff, open_crc _ hlen, decide_eq_true_iff, ← hs, h2, h1, window p q' q r hq' hq, hx]
    exact xor_self_iff _ _
  · intro hm0
    have he : q' = q := by
      rw [hm0, Nat.xor_zero] at hx
      have e1 := bytesLE_numLE q'
      have e2 := bytesLE_numLE q
      rw [← e1, ← e2, hx, hq, hq']
    rw [h2, he, ← h1]
    exact seal_opened l
end Go.Proofs.YtdogchpeimgkjaaDoor
