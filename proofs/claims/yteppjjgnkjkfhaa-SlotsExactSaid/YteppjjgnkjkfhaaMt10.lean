/- The mathematics of slots (layer 10): counts of states, a commit, a slot that is given. -/
import Derived.Test.YteppjjgnkjkfhaaSl3
set_option linter.unusedVariables false
namespace Go.Proofs.Yteppjjgnkjkfhaa
open Go.RowKit

/-- The states are the four there are. -/
def Ok4 (l : List Int) : Prop := ∀ x ∈ l, x = 0 ∨ x = 1 ∨ x = 2 ∨ x = 3

theorem ok4_zero (n : Nat) : Ok4 (List.replicate n 0) := fun x h => .inl (List.eq_of_mem_replicate h)
theorem ok4_set {l : List Int} (h : Ok4 l) (i : Nat) {x : Int} (hx : x = 0 ∨ x = 1 ∨ x = 2 ∨ x = 3) : Ok4 (l.set i x) := fun y hy => by
  rcases List.mem_or_eq_of_mem_set hy with h' | rfl
  · exact h y h'
  · exact hx
theorem ok4_com {l : List Int} (h : Ok4 l) : Ok4 (l.map comL) := fun y hy => by
  obtain ⟨x, hx, rfl⟩ := List.mem_map.1 hy
  rcases h x hx with rfl | rfl | rfl | rfl <;> decide
theorem ok4_give {l : List Int} (h : Ok4 l) (i : Int) : Ok4 (giveL l i) := by
  unfold giveL
  split
  · exact ok4_set h _ (by split <;> omega)
  · exact h
theorem ok4_at {l : List Int} (h : Ok4 l) (j : Nat) : l.getD j 0 = 0 ∨ l.getD j 0 = 1 ∨ l.getD j 0 = 2 ∨ l.getD j 0 = 3 := by
  rcases Nat.lt_or_ge j l.length with hj | hj
  · rw [List.getD_eq_getElem?_getD, List.getElem?_eq_getElem hj]
    exact h _ (List.getElem_mem hj)
  · exact .inl (by rw [List.getD_eq_getElem?_getD, List.getElem?_eq_none hj]; rfl)
theorem giveL_length (l : List Int) (i : Int) : (giveL l i).length = l.length := by unfold giveL; split <;> simp

theorem usedL_count (l : List Int) : ∀ j, j ≤ l.length → (usedL l j).length = (l.take j).countP slUse := by
  intro j
  induction j with
  | zero => intro _; rfl
  | succ j ih =>
    intro hj
    rw [usedL_succ, List.take_succ_eq_append_getElem (by omega), List.countP_append, ← ih (by omega), List.getD_eq_getElem?_getD, List.getElem?_eq_getElem (by omega), Option.getD_some, List.countP_singleton]
    split <;> simp
theorem usedL_all (l : List Int) : (usedL l l.length).length = l.countP slUse := by rw [usedL_count l _ (Nat.le_refl _), List.take_length]

theorem ok4_three {l : List Int} (h : Ok4 l) : l.count 0 + l.count 3 + l.countP slUse = l.length := by
  induction l with
  | nil => rfl
  | cons x r ih =>
    have := ih fun y hy => h y (List.mem_cons_of_mem _ hy)
    rw [List.count_cons, List.count_cons, List.countP_cons, List.length_cons]
    rcases h x List.mem_cons_self with rfl | rfl | rfl | rfl <;> simp [slUse] <;> omega

theorem com_no3 (l : List Int) : (l.map comL).count 3 = 0 := by
  rw [List.count_eq_zero]
  intro h
  obtain ⟨x, _, hx⟩ := List.mem_map.1 h
  unfold comL at hx
  split at hx
  · omega
  · split at hx <;> omega
theorem com_com (l : List Int) : (l.map comL).map comL = l.map comL := by
  rw [List.map_map]
  refine List.map_congr_left fun x _ => ?_
  simp only [Function.comp_apply]
  unfold comL
  split
  · simp
  · split <;> simp_all

theorem used_mem {l : List Int} {j : Nat} {k : Int} (h : k ∈ usedL l j) : ∃ i : Nat, k = (i : Int) ∧ i < j ∧ slUse (l.getD i 0) = true := by
  obtain ⟨i, hi, rfl⟩ := List.mem_map.1 h
  obtain ⟨h1, h2⟩ := List.mem_filter.1 hi
  exact ⟨i, rfl, List.mem_range.1 h1, h2⟩

theorem getD_map_com (l : List Int) (j : Nat) : (l.map comL).getD j 0 = comL (l.getD j 0) := by
  rw [List.getD_eq_getElem?_getD, List.getD_eq_getElem?_getD, List.getElem?_map]
  cases l[j]? <;> rfl

/-- What giving a slot that was used at the last commit is. -/
theorem give_bound {l : List Int} (hl : Ok4 l) {j : Nat} (hj : j < l.length) (hu : slUse ((l.map comL).getD j 0) = true) :
    giveE (l.map comL) j = 0 ∧ giveL (l.map comL) j = (l.map comL).set j 3 ∧ ((l.map comL).set j 3).count 3 = 1 ∧ ((l.map comL).set j 3).count 0 = (l.map comL).count 0 ∧
    giveE ((l.map comL).set j 3) j = 7 ∧ giveL ((l.map comL).set j 3) j = (l.map comL).set j 3 ∧
    ((l.map comL).set j 3).map comL = (l.map comL).set j 0 ∧ ((l.map comL).set j 0).count 3 = 0 ∧ ((l.map comL).set j 0).count 0 = (l.map comL).count 0 + 1 := by
  have hm : Ok4 (l.map comL) := ok4_com hl
  have hmm := com_com l
  have h3 := com_no3 l
  have h2 : (l.map comL).getD j 0 = 2 := by
    rw [getD_map_com] at hu ⊢
    rcases ok4_at hl j with h | h | h | h <;> rw [h] at hu ⊢
    · simp [comL, slUse] at hu
    · rfl
    · rfl
    · simp [comL, slUse] at hu
  have hjm : j < (l.map comL).length := by rw [List.length_map]; exact hj
  generalize l.map comL = m at *
  have hg : m[j] = 2 := by rw [List.getD_eq_getElem?_getD, List.getElem?_eq_getElem hjm] at h2; exact h2
  have hin : slIn m.length (j : Int) = true := by simp [slIn, hjm]
  have hE : giveE m j = 0 := by unfold giveE; rw [if_pos hin, Int.toNat_natCast, h2]; rfl
  have hin3 : slIn (m.set j 3).length (j : Int) = true := by simp [slIn, hjm]
  have hg3 : (m.set j 3).getD j 0 = 3 := by rw [List.getD_eq_getElem?_getD, List.getElem?_set_self hjm]; rfl
  have hE3 : giveE (m.set j 3) j = 7 := by unfold giveE; rw [if_pos hin3, Int.toNat_natCast, hg3]; rfl
  refine ⟨hE, ?_, ?_, ?_, hE3, ?_, ?_, ?_, ?_⟩
  · unfold giveL; rw [if_pos hE, Int.toNat_natCast, if_pos h2]
  · rw [List.count_set hjm, h3, hg]; rfl
  · rw [List.count_set hjm, hg]; rfl
  · unfold giveL; rw [if_neg (by rw [hE3]; decide)]
  · rw [List.map_set, hmm]; rfl
  · rw [List.count_set hjm, h3, hg]; rfl
  · rw [List.count_set hjm, hg]; rfl

end Go.Proofs.Yteppjjgnkjkfhaa
