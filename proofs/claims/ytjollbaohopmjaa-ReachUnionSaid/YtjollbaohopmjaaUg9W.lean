import Derived.Test.YtjollbaohopmjaaUn9W
import Derived.Test.YtjollbaohopmjaaHs8W
/- ReachUnion of layer 9: a tree in a law's loop, the roots that it has had. -/
set_option linter.unusedVariables false
namespace Go.Proofs.Ytjollbaohopmjaa
open Go.RowKit

/-- A tree, and a row of roots of trees that there were; the row is none of the Shelf's. -/
structure Un (w3 : World) (s root j : Nat) (qs : Pairs) (N : List Nd) (D : Nat → Prop) (R : List Int) (v : Value) (W : World) : Prop where
  sh : IsSh W s 511 N D
  dge : ∀ k, D k → w3.heap.size ≤ k
  nl : N.length ≤ 5 * j
  t : TrI N root qs (8 + j)
  row : W.ownsRow w3.heap.size 3 1 v R.length (cellsI R)
  rn : ∀ k, D k → v.ownBlock ≠ some k
  all : ∀ x ∈ R, UnT N x
  kept : KeptIn (· < w3.heap.size) w3 W

section
variable {w3 W W' w1 : World} {s root j r : Nat} {qs qs2 : Pairs} {N : List Nd} {D : Nat → Prop} {R : List Int} {v : Value}
theorem Un.old (h : Un w3 s root j qs N D R v W) (hk : KeptIn (· < W.heap.size) W W') : Un w3 s root j qs N D R v W' :=
  ⟨h.sh.old hk, h.dge, h.nl, h.t, rowS_block h.row fun g e => hk.block g (rowS_lt h.row g e).2, h.rn, h.all, h.kept.go hk⟩
/-- Behind a Put. -/
theorem Un.change (h : Un w3 s root j qs N D R v W) (hc : ChR s N (8 + j) D qs2 W r W') : ∃ M D2, Un w3 s r (j + 1) qs2 (N ++ M) D2 R v W' := by
  obtain ⟨M, D2, a1, a2, a3, a4, a5⟩ := hc
  obtain ⟨la, cp, hbox, _⟩ := h.sh.mem
  have hz := h.kept.size
  have hs0 := h.dge s h.sh.ds
  have n1 : ∀ g, v.ownBlock = some g → g < W.heap.size ∧ g ≠ s := fun g e => ⟨(rowS_lt h.row g e).2, fun e2 => by subst e2; exact rowS_ne h.row hbox (by decide) e⟩
  refine ⟨M, D2, a1, fun k hk => ?_, by rw [List.length_append]; have := h.nl; omega, a2, rowS_block h.row fun g e => a5.block g (n1 g e), fun k hk e => ?_, fun x hx => (h.all x hx).app, h.kept.trans (a5.mono fun k hk => ⟨by omega, by omega⟩)⟩
  · rcases a4 k hk with h1 | h1
    · exact h.dge k h1
    · omega
  · rcases a4 k hk with h1 | h1
    · exact h.rn k h1 e
    · have := (n1 k e).1; omega
/-- Behind the append of a root. -/
theorem Un.push {g cap : Nat} {o : Obj} (h : Un w3 s root j qs N D R v W) (hg : (W.alloc o).grownBy w1 v.ownBlock) (hl : v.ownBlock = some g ∨ g = W.heap.size + 1)
    (hown : w1.ownsRow w3.heap.size 3 1 (.slice (some ⟨g, 0, none⟩) (R.length + 1) cap) (R.length + 1) (cellsI R ++ [.int .i64 (root : Int)])) :
    Un w3 s root j qs N D (R ++ [(root : Int)]) (.slice (some ⟨g, 0, none⟩) (R.length + 1) cap) w1 := by
  have hk := grow_kept hg
  have hz := h.kept.size
  refine ⟨h.sh.kept (hk.mono fun k hD => ⟨h.sh.lt k hD, h.rn k hD⟩), h.dge, h.nl, h.t, ?_, fun k hD e => ?_, fun x hx => ?_, h.kept.trans (hk.mono fun k hk2 => ⟨by omega, fun e => ?_⟩)⟩
  · rw [List.length_append, show cellsI (R ++ [(root : Int)]) = cellsI R ++ [.int .i64 (root : Int)] by simp [cellsI]]; exact hown
  · simp only [Value.ownBlock, Option.some.injEq] at e
    subst e
    rcases hl with hl | hl
    · exact h.rn g hD hl
    · have := h.sh.lt g hD; omega
  · rcases List.mem_append.1 hx with hx | hx
    · exact h.all x hx
    · rw [List.mem_singleton] at hx
      rw [hx]
      exact h.t.un
  · have := (rowS_lt h.row k e).1; omega
end

end Go.Proofs.Ytjollbaohopmjaa
