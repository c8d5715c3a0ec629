/- What was turned within four bytes. Of no program. -/
import Derived.Test.YtdogchpeimgkjaaDoorCrc
set_option linter.unusedVariables false
namespace Go.Proofs.YtdogchpeimgkjaaDoor
open Go.RowKit

/-- The first i of four bytes from k on are turned by m's bytes. -/
def turn (t : List UInt8) (k m i : Nat) : List UInt8 := t.take k ++ (List.zipWith (· ^^^ ·) ((t.drop k).take i) (bytesLE m i) ++ t.drop (k + i))

theorem turn_zero (t : List UInt8) (k m : Nat) : turn t k m 0 = t := by simp [turn, bytesLE]

theorem turn_split (t : List UInt8) (k m i : Nat) (h : k + i < t.length) : ∃ p d, p.length = k + i ∧ turn t k m i = p ++ t[k + i] :: d ∧ turn t k m (i + 1) = p ++ (t[k + i] ^^^ UInt8.ofNat (m / 2 ^ (8 * i))) :: d := by
  have hi : i < (t.drop k).length := by rw [List.length_drop]; omega
  have hg : (t.drop k)[i] = t[k + i] := List.getElem_drop ..
  have hz : ((t.drop k).take i).length = (bytesLE m i).length := by rw [bytesLE_length, List.length_take, List.length_drop]; omega
  refine ⟨t.take k ++ List.zipWith (· ^^^ ·) ((t.drop k).take i) (bytesLE m i), t.drop (k + (i + 1)), ?_, ?_, ?_⟩
  · rw [List.length_append, List.length_zipWith, bytesLE_length, List.length_take, List.length_take, List.length_drop]; omega
  · rw [turn, List.append_assoc, List.drop_eq_getElem_cons h]
    rfl
  · rw [turn, List.take_succ_eq_append_getElem hi, bytesLE_snoc, List.zipWith_append hz, hg]
    simp

theorem zip_xor (q r : List UInt8) (h : q.length = r.length) : numLE (List.zipWith (· ^^^ ·) q r) = numLE q ^^^ numLE r := by
  induction q generalizing r with
  | nil => cases r with
    | nil => rfl
    | cons y r => simp at h
  | cons x q ih => cases r with
    | nil => simp at h
    | cons y r =>
      have hx := x.toNat_lt
      have hy := y.toNat_lt
      have hxy : x.toNat ^^^ y.toNat < 256 := Nat.xor_lt_two_pow (n := 8) hx hy
      have e : ∀ a b : Nat, 256 * (a ^^^ b) = 256 * a ^^^ 256 * b := fun a b => by
        have := Nat.shiftLeft_xor_distrib (a := a) (b := b) (i := 8)
        simpa [Nat.shiftLeft_eq, Nat.mul_comm] using this
      rw [List.zipWith_cons_cons, numLE, numLE, numLE, UInt8.toNat_xor, ih r (by simpa using h), ← byte_xor _ _ hxy, ← byte_xor _ _ hx, ← byte_xor _ _ hy, e]
      simp only [Nat.xor_assoc]
      congr 1
      rw [← Nat.xor_assoc, Nat.xor_comm y.toNat, Nat.xor_assoc]

theorem turn_four (t : List UInt8) (k m : Nat) (h : k + 4 ≤ t.length) (hm : m < 4294967296) : ∃ p q q' r, t = p ++ q ++ r ∧ turn t k m 4 = p ++ q' ++ r ∧ q.length = 4 ∧ q'.length = 4 ∧ numLE q' = numLE q ^^^ m := by
  have hq : ((t.drop k).take 4).length = 4 := by rw [List.length_take, List.length_drop]; omega
  refine ⟨t.take k, (t.drop k).take 4, List.zipWith (· ^^^ ·) ((t.drop k).take 4) (bytesLE m 4), t.drop (k + 4), ?_, ?_, hq, ?_, ?_⟩
  · rw [← List.drop_drop, List.append_assoc, List.take_append_drop, List.take_append_drop]
  · rw [turn, List.append_assoc]
  · rw [List.length_zipWith, hq, bytesLE_length]; rfl
  · rw [zip_xor _ _ (by rw [hq, bytesLE_length]), numLE_bytesLE]
    congr 1
    exact Nat.mod_eq_of_lt hm

theorem xor_self_iff (a m : Nat) : a ^^^ m = a ↔ m = 0 := by
  constructor
  · intro h
    exact xor_right_inj' (c := a) (by rw [h, Nat.xor_zero])
  · rintro rfl; exact Nat.xor_zero _
end Go.Proofs.YtdogchpeimgkjaaDoor
