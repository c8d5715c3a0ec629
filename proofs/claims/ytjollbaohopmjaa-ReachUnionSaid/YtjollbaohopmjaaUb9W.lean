import Derived.Test.YtjollbaohopmjaaRz9W
import Derived.WalkKit
import Derived.WalkSpells
import Derived.WalkLawsBesides
import Derived.RegionTactic
import Derived.BigRegion
import Derived.Deep.MidRow
import Derived.Lib.Hide
/- A variable of 512 bools: made, stored whole; its cells. -/
set_option linter.unusedVariables false
namespace Go.Proofs.Ytjollbaohopmjaa
open Go.RowKit

abbrev cellsB (l : List Bool) : List Value := l.map Value.bool
def rowBV (l : List Bool) : Value := .agg (cellsB l).toArray
/-- A block of bools. -/
def RowB (g : Nat) (l : List Bool) (W : World) : Prop := W.heap[g]? = some (.cells (cellsB l).toArray 54 (0, 0))
def falses : List Bool := List.replicate 512 false
theorem falses_length : falses.length = 512 := List.length_replicate
section
variable {g : Nat} {l : List Bool} {W W' : World}
theorem RowB.lt (h : RowB g l W) : g < W.heap.size := (Array.getElem?_eq_some_iff.1 h).1
theorem RowB.kept {X : Nat → Prop} (h : RowB g l W) (hk : KeptIn X W W') (hX : X g) : RowB g l W' := (hk.block g hX).trans h
theorem RowB.cell (h : RowB g l W) {i : Nat} {b : Bool} (hi : l[i]? = some b) : W.cell? ⟨g, i, none⟩ = some (.bool b) := by
  unfold RowB at h
  simp [World.cell?, h, hi]
theorem RowB.fro (h : RowB g l W) (i : Nat) : W.frozen? ⟨g, i, none⟩ = false := by
  unfold RowB at h
  simp [World.frozen?, h]
theorem RowB.set (h : RowB g l W) (i : Nat) (b : Bool) : RowB g (l.set i b) (W.setCell ⟨g, i, none⟩ (.bool b)) := by
  obtain ⟨hlt, hk⟩ := Array.getElem?_eq_some_iff.1 h
  show (W.heap.modify g _)[g]? = _
  rw [Array.getElem?_eq_getElem (by rw [Array.size_modify]; exact hlt), Array.getElem_modify_self, hk]
  simp [cellsB, List.map_set]
end
theorem infoRowB : (Try.prog.info? 54).map (·.size) = some 512 := by kernel_rfl
theorem rowBSize {l : List Bool} (h : l.length = 512) : (Try.prog.info? 54).map (·.size) = some (cellsB l).toArray.size := by
  rw [List.size_toArray, List.length_map, h]; exact infoRowB
theorem cellsB_one (l : List Bool) : ∀ u ∈ cellsB l, u.oneCell' = true := by
  intro u hu
  obtain ⟨n, _, rfl⟩ := List.mem_map.1 hu
  rfl
theorem rowBOne (l : List Bool) : (cellsB l).toArray.all (·.oneCell') = true := all_oneCell_toArray (cellsB_one l)
theorem run_alloc_rowB (w : World) : (Instr.alloc 54 true (.tuple #[])).run Try.prog w = .ok (.pointer (some ⟨w.heap.size, 0, none⟩)) (w.alloc (.cells (cellsB falses).toArray 54)) := by kernel_rfl
theorem run_build_rowB (w : World) : (Instr.build 54 #[]).run Try.prog w = .ok (rowBV falses) w := by kernel_rfl

section
variable {ops : Array Oper} {rest : List Oper} {o : Oper} {a : Act} {w : World} {Q : Exit → Act → World → Prop}
theorem wpList_build_rowB (hg : o.guard = none) (hop : o.op = Op.build 54 #[])
    (h : wpList Try.prog ops Q rest (a.put o.dst (rowBV falses)) w) : wpList Try.prog ops Q (o :: rest) a w := by
  refine wpList_plain hg fun K hK => ?_
  have hrun := run_build_rowB w
  unfold Oper.wp
  simp only [execOp, hop, Sem.run_bind, Array.map_empty, hrun, Result.andThen_ok, Sem.run_pure]
  exact hK _ _ h
theorem wpList_alloc_rowB (hg : o.guard = none) (hop : o.op = Op.alloc 54)
    (h : ∀ w', RowB w.heap.size falses w' → KeptIn (· < w.heap.size) w w' → w'.heap.size = w.heap.size + 1 → wpList Try.prog ops Q rest (a.put o.dst (.pointer (some ⟨w.heap.size, 0, none⟩))) w') :
    wpList Try.prog ops Q (o :: rest) a w := by
  refine wpList_plain hg fun K hK => ?_
  have hrun := run_alloc_rowB w
  unfold Oper.wp
  simp only [execOp, hop, Sem.run_bind, hrun, Result.andThen_ok, Sem.run_pure]
  exact hK _ _ (h _ (heap_alloc_new w _) ((KeptIn.refl _ w).alloc (fun _ h => h) _) (by simp))
theorem wpList_store_rowB (hg : o.guard = none) (x y : Operand) (hop : o.op = .store 54 x y) (g : Nat) (l l' : List Bool) (hx : a.eval x = .pointer (some ⟨g, 0, none⟩)) (hy : a.eval y = rowBV l) (hl : l.length = 512) (hl' : l'.length = 512) (hb : RowB g l' w)
    (h : ∀ w', RowB g l w' → KeptIn (· ≠ g) w w' → w'.heap.size = w.heap.size → wpList Try.prog ops Q rest (a.put o.dst undef) w') :
    wpList Try.prog ops Q (o :: rest) a w := by
  refine wpList_store_row hg 54 x y hop g (cellsB l).toArray hx hy 54 _ hb (rowBSize hl) (by simp [hl, hl']) (rowBOne l) (h _ (setRow_heap _ _ _ _ _ _ hb) ?_ (by simp))
  exact ⟨rfl, rfl, rfl, by simp, fun k hk => setRow_other _ _ _ _ hk⟩
end

end Go.Proofs.Ytjollbaohopmjaa
