/- Heads written to the one sector and the other by turns: the mathematics. -/
import Derived.Test.YtdogchpeimgkjaaDoorTwo6
set_option linter.unusedVariables false
namespace Go.Proofs.YtdogchpeimgkjaaDoor
open Go.RowKit

/-- The Gen of what stands in sector z behind i writings; 0: nothing. -/
def seqG (i z : Nat) : Nat := if (i - 1) % 2 = z then i else i - 1
/-- What stands there. -/
def cont (hd : Nat → Hd) (i z : Nat) : List UInt8 := if seqG i z = 0 then [] else bytesH (hd (seqG i z))

section
variable {hd : Nat → Hd} {i z k : Nat}
theorem cont_length (hd : Nat → Hd) (i z : Nat) : (cont hd i z).length ≤ 16 := by
  unfold cont
  split
  · exact Nat.zero_le _
  · rw [bytesH_length]; exact Nat.le_refl _
theorem cont_store (hd : Nat → Hd) (i z : Nat) (hz : i % 2 = z) : cont hd (i + 1) z = bytesH (hd (i + 1)) := by
  have e : seqG (i + 1) z = i + 1 := by unfold seqG; rw [if_pos (by omega)]
  unfold cont
  rw [e, if_neg (by omega)]
theorem cont_other (hd : Nat → Hd) (i z : Nat) (hz : z < 2) (h : i % 2 ≠ z) : cont hd (i + 1) z = cont hd i z := by
  have e : seqG (i + 1) z = seqG i z := by
    unfold seqG
    rw [if_neg (by omega)]
    by_cases hi : i = 0
    · subst hi
      by_cases h0 : (0 - 1) % 2 = z <;> simp [h0]
    · rw [if_pos (by omega)]; omega
  unfold cont
  rw [e]

theorem cont_zero (hd : Nat → Hd) (z : Nat) : cont hd 0 z = [] := by
  have e : seqG 0 z = 0 := by unfold seqG; split <;> rfl
  unfold cont
  rw [e, if_pos rfl]

theorem isH_nil : isH [] = false := isH_short (by simp)
theorem newH_two (a b : Hd) (ha : goodH a = true) (hb : goodH b = true) : newH (bytesH a) (bytesH b) = if b.gen ≤ a.gen then (a, 0, true) else (b, 1, true) := by
  have a1 := isH_bytes a ha
  have b1 := isH_bytes b hb
  simp [newH, a1.1, a1.2, b1.1, b1.2]
theorem newH_left (a : Hd) (ha : goodH a = true) (u : List UInt8) (hu : isH u = false) : newH (bytesH a) u = (a, 0, true) := by
  have a1 := isH_bytes a ha
  simp [newH, a1.1, a1.2, hu]
theorem newH_right (a : Hd) (ha : goodH a = true) (u : List UInt8) (hu : isH u = false) : newH u (bytesH a) = (a, 1, true) := by
  have a1 := isH_bytes a ha
  simp [newH, a1.1, a1.2, hu]

/-- The newest is the one written last. -/
theorem new_cont (hd : Nat → Hd) (hgen : ∀ g, (hd g).gen = g) (hgood : ∀ g, 1 ≤ g → g ≤ 100 → goodH (hd g) = true) (i : Nat) (hi : i + 1 ≤ 100) :
    newH (cont hd (i + 1) 0) (cont hd (i + 1) 1) = (hd (i + 1), ((i % 2 : Nat) : Int), true) := by
  have g1 := hgood (i + 1) (by omega) hi
  by_cases h0 : i % 2 = 0
  · rw [cont_store hd i 0 h0, h0]
    by_cases hz : i = 0
    · subst hz
      exact newH_left _ g1 _ isH_nil
    · have e : cont hd (i + 1) 1 = bytesH (hd i) := by
        unfold cont
        rw [show seqG (i + 1) 1 = i by unfold seqG; rw [if_neg (by omega)]; omega, if_neg hz]
      rw [e, newH_two _ _ g1 (hgood i (by omega) (by omega)), hgen, hgen, if_pos (by omega)]
      rfl
  · have h1 : i % 2 = 1 := by omega
    have e : cont hd (i + 1) 0 = bytesH (hd i) := by
      unfold cont
      rw [show seqG (i + 1) 0 = i by unfold seqG; rw [if_neg (by omega)]; omega, if_neg (by omega)]
    rw [cont_store hd i 1 h1, h1, e, newH_two _ _ (hgood i (by omega) (by omega)) g1, hgen, hgen, if_neg (by omega)]
    rfl

/-- Where the one written last is torn, the one ahead of it is the newest. -/
theorem new_torn0 (hd : Nat → Hd) (hgood : ∀ g, 1 ≤ g → g ≤ 100 → goodH (hd g) = true) (j : Nat) (hj : j + 2 ≤ 100) (h : (j + 1) % 2 = 0) (u : List UInt8) (hu : isH u = false) :
    newH u (cont hd (j + 2) 1) = (hd (j + 1), 1, true) := by
  have e : cont hd (j + 2) 1 = bytesH (hd (j + 1)) := by
    unfold cont
    rw [show seqG (j + 2) 1 = j + 1 by unfold seqG; rw [if_neg (by omega)]; omega, if_neg (by omega)]
  rw [e]
  exact newH_right _ (hgood _ (by omega) (by omega)) _ hu
theorem new_torn1 (hd : Nat → Hd) (hgood : ∀ g, 1 ≤ g → g ≤ 100 → goodH (hd g) = true) (j : Nat) (hj : j + 2 ≤ 100) (h : (j + 1) % 2 = 1) (u : List UInt8) (hu : isH u = false) :
    newH (cont hd (j + 2) 0) u = (hd (j + 1), 0, true) := by
  have e : cont hd (j + 2) 0 = bytesH (hd (j + 1)) := by
    unfold cont
    rw [show seqG (j + 2) 0 = j + 1 by unfold seqG; rw [if_neg (by omega)]; omega, if_neg (by omega)]
  rw [e]
  exact newH_left _ (hgood _ (by omega) (by omega)) _ hu
end

/-- Two strings in a variable. -/
def TwoS (t : Nat) (a b : List UInt8) (W : World) : Prop := W.heap[t]? = some (.cells #[.string ⟨a.toArray⟩, .string ⟨b.toArray⟩] 45 (0, 0))
section
variable {t : Nat} {a b : List UInt8} {W W' : World}
theorem TwoS.c0 (k : TwoS t a b W) : W.cell? ⟨t, 0, none⟩ = some (.string ⟨a.toArray⟩) := by simp [World.cell?, show W.heap[t]? = _ from k]
theorem TwoS.c1 (k : TwoS t a b W) : W.cell? ⟨t, 1, none⟩ = some (.string ⟨b.toArray⟩) := by simp [World.cell?, show W.heap[t]? = _ from k]
theorem TwoS.fz (k : TwoS t a b W) (i : Nat) : W.frozen? ⟨t, i, none⟩ = false := by simp [World.frozen?, show W.heap[t]? = _ from k]
theorem TwoS.lt (k : TwoS t a b W) : t < W.heap.size := (Array.getElem?_eq_some_iff.1 k).1
theorem TwoS.kept {X : Nat → Prop} (h1 : TwoS t a b W) (hk : KeptIn X W W') (hX : X t) : TwoS t a b W' := (hk.block t hX).trans h1
theorem TwoS.set0 (k : TwoS t a b W) (v : List UInt8) : TwoS t v b (W.setCell ⟨t, 0, none⟩ (.string ⟨v.toArray⟩)) := (heap_setCell_same _ _ _ _ _ _ k).trans rfl
theorem TwoS.set1 (k : TwoS t a b W) (v : List UInt8) : TwoS t a v (W.setCell ⟨t, 1, none⟩ (.string ⟨v.toArray⟩)) := (heap_setCell_same _ _ _ _ _ _ k).trans rfl
end

end Go.Proofs.YtdogchpeimgkjaaDoor
