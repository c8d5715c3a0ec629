/- Two rows of bytes side by side; a number's lowest bits. -/
import Derived.Test.YtdogchpeimgkjaaDoorAw6
import Derived.Test.YtdogchpeimgkjaaDoorNums
import Derived.Test.YtdogchpeimgkjaaDoorTurn
set_option linter.unusedVariables false
namespace Go.Proofs.YtdogchpeimgkjaaDoor
open Go.RowKit

section
variable {W V : World} {g g' j : Nat} {u : List UInt8}
theorem Has.lt (z : Has W g u) (h : u ≠ []) : g < W.heap.size := by
  obtain ⟨b, r, rfl⟩ := List.exists_cons_of_ne_nil h
  have h1 := (z 0 b rfl).1
  rcases Nat.lt_or_ge g W.heap.size with h | h
  · exact h
  · simp [World.cell?, Array.getElem?_eq_none h] at h1
theorem Has.keep (z : Has W g u) (k : KeptIn (· < W.heap.size) W V) : Has V g u := fun j b hj => by
  obtain ⟨h1, h2⟩ := z j b hj
  have hg : g < W.heap.size := z.lt (by rintro rfl; simp at hj)
  refine ⟨(World.cell?_of_block (a := ⟨g, j, none⟩) (k.block g hg)).trans h1, ?_⟩
  have := k.block g hg
  unfold World.frozen? at h2 ⊢
  rw [this]
  exact h2
theorem Has.other (z : Has W g u) (h : g ≠ g') (v : Value) : Has (W.setCell ⟨g', j, none⟩ v) g u := fun i b hi => by
  obtain ⟨h1, h2⟩ := z i b hi
  exact ⟨by rw [World.cell?_setCell_other _ _ _ _ (by intro e; cases e; exact h rfl)]; exact h1, by rw [World.frozen?_setCell]; exact h2⟩
end

theorem and_low (x : Int) (m : Nat) (hm : m < 4) : bits .and .i64 x (m : Int) = ((((x % 4).toNat) &&& m : Nat) : Int) := by
  have e : (BitVec.ofInt 64 x &&& BitVec.ofInt 64 (m : Int)).toNat = (x % 4).toNat &&& m := by
    rw [BitVec.toNat_and, BitVec.toNat_ofInt, BitVec.toNat_ofInt]
    have e1 : (((m : Int)) % ((2 ^ 64 : Nat) : Int)).toNat = m := by omega
    have e2 : (x % ((2 ^ 64 : Nat) : Int)).toNat % 4 = (x % 4).toNat := by omega
    have e3 : ∀ n : Nat, n &&& m = n % 4 &&& m := fun n => by
      have h1 : n % 4 = n &&& 3 := (Nat.and_two_pow_sub_one_eq_mod n 2).symm
      rw [h1, Nat.and_assoc]
      congr 1
      match m, hm with
      | 0, _ => rfl
      | 1, _ => rfl
      | 2, _ => rfl
      | 3, _ => rfl
    rw [e1, e3, e2]
  have hl : (x % 4).toNat &&& m < 4 := Nat.lt_of_le_of_lt Nat.and_le_right hm
  show IntKind.i64.wrap ((BitVec.ofInt 64 x &&& BitVec.ofInt 64 (m : Int)).toNat : Int) = _
  rw [e, IntKind.wrap_i64]
  omega

/-- The bits that a choice is told by. -/
theorem and_four (x : Int) : ∃ p q : Bool, bits .and .i64 x 1 = (if p then 1 else 0) ∧ bits .and .i64 x 2 = (if q then 2 else 0) ∧ bits .and .i64 x 3 = (if p then 1 else 0) + (if q then 2 else 0) := by
  have h1 := and_low x 1 (by decide)
  have h2 := and_low x 2 (by decide)
  have h3 := and_low x 3 (by decide)
  have hx : (x % 4).toNat < 4 := by omega
  generalize (x % 4).toNat = n at *
  match n, hx with
  | 0, _ => exact ⟨false, false, h1, h2, h3⟩
  | 1, _ => exact ⟨true, false, h1, h2, h3⟩
  | 2, _ => exact ⟨false, true, h1, h2, h3⟩
  | 3, _ => exact ⟨true, true, h1, h2, h3⟩

end Go.Proofs.YtdogchpeimgkjaaDoor
