import Derived.Test.YtlnlgapjlekehaaTp8K
/- The laws' awake of layer 8: its sixteen changes, without memory. -/
set_option linter.unusedVariables false
namespace Go.Proofs.Ytlnlgapjlekehaa
open Go.RowKit

/-- The first j pairs. -/
def awP (j : Nat) : Pairs := (List.range j).map fun t => (3 * t, t)
/-- The nodes behind i changes, the root. -/
def awN (i : Nat) : List Nd := if i < 16 then (List.range i).map fun j => (0, awP (j + 1)) else ((List.range 15).map fun j => (0, awP (j + 1))) ++ [(0, (awP 16).take 8), (0, (awP 16).drop 8), (1, [(0, 16), (24, 17)])]
def awR (i : Nat) : Nat := if i < 16 then i else 18
def awW (i : Nat) : List Stp := [⟨0, awP i, i, i⟩]

def awChk (i : Nat) : Bool := decide (nodeOf (awN i) (awR i) = some (0, awP i)) && goodN 0 (awP i) && decide (0 < (awP i).length) && decide (i = belowK (awP i) (3 * i)) && decide (i = toOf (awP i) (3 * i))
def awChk2 (i : Nat) : Bool := decide (putM 100 (awW i) (3 * i, i) (awN i) = (some (awR (i + 1)), awN (i + 1)))
theorem aw_chk : (List.range 16).all (fun i => (decide (i = 0) || awChk i) && awChk2 i) = true := by decide +kernel

theorem aw_desc (i : Nat) (h : i < 16) : DescW (awN i) (3 * i) (awR i) (awW i) := by
  have h0 := List.all_eq_true.1 aw_chk i (List.mem_range.2 h)
  rcases Nat.eq_zero_or_pos i with rfl | hp
  · exact .inl ⟨rfl, rfl⟩
  · have h0' : awChk i = true := by
      simp only [Bool.and_eq_true, Bool.or_eq_true, decide_eq_true_eq] at h0
      exact h0.1.resolve_left (by omega)
    unfold awChk at h0'
    simp only [Bool.and_eq_true, decide_eq_true_eq] at h0'
    obtain ⟨⟨⟨⟨h1, h2⟩, h3⟩, h4⟩, h5⟩ := h0'
    refine .inr ⟨h1, rfl, ?_, h4, h5⟩
    exact ⟨h2, h3, .inl rfl⟩
theorem aw_put (i : Nat) (h : i < 16) : putM 100 (awW i) (3 * i, i) (awN i) = (some (awR (i + 1)), awN (i + 1)) := by
  have h0 := List.all_eq_true.1 aw_chk i (List.mem_range.2 h)
  simp only [Bool.and_eq_true] at h0
  exact of_decide_eq_true h0.2
theorem aw_len (i : Nat) (h : i ≤ 16) : (awN i).length ≤ 18 := by
  have h0 : ∀ i, i < 17 → (awN i).length ≤ 18 := by decide +kernel
  exact h0 i (by omega)

theorem aw_tree : ∃ ps, SndL (awN 16) true 0 0 topH 1 18 ps (awP 16) [16, 17] ∧ ps.length ≤ 15 := by
  refine ⟨[(0, 16), (24, 17)], ⟨by decide +kernel, ⟨by decide +kernel, by decide, .inr (by decide)⟩, ?_, ?_, ?_⟩, by decide⟩
  · refine ⟨(awP 16).take 8, (awP 16).drop 8, [16], [17], by decide +kernel, rfl, ?_, by decide +kernel, by decide +kernel, (awP 16).drop 8, [], [17], [], by decide +kernel, rfl, ?_, by decide +kernel, by decide +kernel, rfl, rfl⟩
    · exact ⟨by decide +kernel, by decide +kernel, by decide +kernel, rfl⟩
    · exact ⟨by decide +kernel, by decide +kernel, by decide +kernel, rfl⟩
  · unfold Srt; decide +kernel
  · decide +kernel
/-- The way of 21. -/
theorem aw_way : WayG (awN 16) 21 [⟨1, [(0, 16), (24, 17)], 0, 1⟩, ⟨0, (awP 16).take 8, 7, 8⟩] true 0 0 topH 18 := by
  refine ⟨by decide +kernel, by decide, ⟨by decide +kernel, by decide, .inr (by decide)⟩, by decide +kernel, rfl, ?_⟩
  refine ⟨by decide +kernel, rfl, ⟨by decide +kernel, by decide +kernel, by decide, by decide +kernel, by decide +kernel⟩, by decide +kernel, by decide +kernel⟩

end Go.Proofs.Ytlnlgapjlekehaa
