/- Variables of 22 and of 1024 numbers: made, stored whole; their cells. -/
import Derived.Test.YtdbohcdjamhdjaaHl15
import Derived.WalkKit
import Derived.WalkSpells
import Derived.WalkLawsBesides
import Derived.RegionTactic
import Derived.BigRegion
import Derived.Deep.MidRow
import Derived.Great.Ranges
import Derived.Lib.Hide
set_option linter.unusedVariables false
namespace Go.Proofs.Ytdbohcdjamhdjaa
open Go.RowKit

abbrev cellsU (l : List Nat) : List Value := l.map fun n : Nat => Value.int .i64 (n : Int)
def rowUV (l : List Nat) : Value := .agg (cellsU l).toArray
theorem cellsU_one (l : List Nat) : ∀ u ∈ cellsU l, u.oneCell' = true := by
  intro u hu
  obtain ⟨n, _, rfl⟩ := List.mem_map.1 hu
  rfl
theorem rowUOne (l : List Nat) : (cellsU l).toArray.all (·.oneCell') = true := all_oneCell_toArray (cellsU_one l)
/-- A block of numbers. -/
def RowU (T : TypeId) (g : Nat) (l : List Nat) (W : World) : Prop := W.heap[g]? = some (.cells (cellsU l).toArray T (0, 0))
section
variable {T : TypeId} {g : Nat} {l : List Nat} {W W' : World}
theorem RowU.lt (h : RowU T g l W) : g < W.heap.size := (Array.getElem?_eq_some_iff.1 h).1
theorem RowU.kept {X : Nat → Prop} (h : RowU T g l W) (hk : KeptIn X W W') (hX : X g) : RowU T g l W' := (hk.block g hX).trans h
theorem RowU.old (h : RowU T g l W) (hk : KeptIn (· < W.heap.size) W W') : RowU T g l W' := h.kept hk h.lt
theorem RowU.cell (h : RowU T g l W) {i : Nat} {b : Nat} (hi : l[i]? = some b) : W.cell? ⟨g, i, none⟩ = some (.int .i64 (b : Int)) := by
  unfold RowU at h
  simp [World.cell?, h, hi]
theorem RowU.fro (h : RowU T g l W) (i : Nat) : W.frozen? ⟨g, i, none⟩ = false := by
  unfold RowU at h
  simp [World.frozen?, h]
theorem RowU.set (h : RowU T g l W) (i : Nat) (b : Nat) : RowU T g (l.set i b) (W.setCell ⟨g, i, none⟩ (.int .i64 (b : Int))) := by
  obtain ⟨hlt, hk⟩ := Array.getElem?_eq_some_iff.1 h
  show (W.heap.modify g _)[g]? = _
  rw [Array.getElem?_eq_getElem (by rw [Array.size_modify]; exact hlt), Array.getElem_modify_self, hk]
  simp [cellsU, List.map_set]
end

def zeros22 : List Nat := List.replicate 22 0
theorem zeros22_length : zeros22.length = 22 := List.length_replicate
theorem info22 : (Try.prog.info? 60).map (·.size) = some 22 := by kernel_rfl
theorem size22 {l : List Nat} (h : l.length = 22) : (Try.prog.info? 60).map (·.size) = some (cellsU l).toArray.size := by
  rw [List.size_toArray, List.length_map, h]; exact info22
theorem run_alloc_22 (w : World) : (Instr.alloc 60 true (.tuple #[])).run Try.prog w = .ok (.pointer (some ⟨w.heap.size, 0, none⟩)) (w.alloc (.cells (cellsU zeros22).toArray 60)) := by kernel_rfl
theorem run_build_22 (w : World) : (Instr.build 60 #[]).run Try.prog w = .ok (rowUV zeros22) w := by kernel_rfl
section
variable {ops : Array Oper} {rest : List Oper} {o : Oper} {a : Act} {w : World} {Q : Exit → Act → World → Prop}
theorem wpList_build_22 (hg : o.guard = none) (hop : o.op = Op.build 60 #[])
    (h : wpList Try.prog ops Q rest (a.put o.dst (rowUV zeros22)) w) : wpList Try.prog ops Q (o :: rest) a w := by
  refine wpList_plain hg fun K hK => ?_
  have hrun := run_build_22 w
  unfold Oper.wp
  simp only [execOp, hop, Sem.run_bind, Array.map_empty, hrun, Result.andThen_ok, Sem.run_pure]
  exact hK _ _ h
theorem wpList_alloc_22 (hg : o.guard = none) (hop : o.op = Op.alloc 60)
    (h : ∀ w', RowU 60 w.heap.size zeros22 w' → KeptIn (· < w.heap.size) w w' → w'.heap.size = w.heap.size + 1 → wpList Try.prog ops Q rest (a.put o.dst (.pointer (some ⟨w.heap.size, 0, none⟩))) w') :
    wpList Try.prog ops Q (o :: rest) a w := by
  refine wpList_plain hg fun K hK => ?_
  have hrun := run_alloc_22 w
  unfold Oper.wp
  simp only [execOp, hop, Sem.run_bind, hrun, Result.andThen_ok, Sem.run_pure]
  exact hK _ _ (h _ (heap_alloc_new w _) ((KeptIn.refl _ w).alloc (fun _ h => h) _) (by simp))
theorem wpList_store_22 (hg : o.guard = none) (x y : Operand) (hop : o.op = .store 60 x y) (g : Nat) (l l' : List Nat) (hx : a.eval x = .pointer (some ⟨g, 0, none⟩)) (hy : a.eval y = rowUV l) (hl : l.length = 22) (hl' : l'.length = 22) (hb : RowU 60 g l' w)
    (h : ∀ w', RowU 60 g l w' → KeptIn (· ≠ g) w w' → w'.heap.size = w.heap.size → wpList Try.prog ops Q rest (a.put o.dst undef) w') :
    wpList Try.prog ops Q (o :: rest) a w := by
  refine wpList_store_row hg 60 x y hop g (cellsU l).toArray hx hy 60 _ hb (size22 hl) (by simp [hl, hl']) (rowUOne l) (h _ (setRow_heap _ _ _ _ _ _ hb) ?_ (by simp))
  exact ⟨rfl, rfl, rfl, by simp, fun k hk => setRow_other _ _ _ _ hk⟩
theorem wpList_box_22 (hg : o.guard = none) (x : Operand) (hop : o.op = .box 60 x) (l : List Nat) (hx : a.eval x = rowUV l)
    (h : ∀ w', RowU 60 w.heap.size l w' → KeptIn (· < w.heap.size) w w' → w'.heap.size = w.heap.size + 1 → wpList Try.prog ops Q rest (a.put o.dst (.pointer (some ⟨w.heap.size, 0, none⟩))) w') :
    wpList Try.prog ops Q (o :: rest) a w :=
  Go.Great.wpList_boxTo hg 60 x hop _ rfl _ rfl (cellsU l).toArray (by rw [hx]; rfl) (h _ (heap_alloc_new w _) ((KeptIn.refl _ w).alloc (fun _ h => h) _) (by simp))
end

def zerosK : List Nat := List.replicate 1024 0
theorem zerosK_length : zerosK.length = 1024 := List.length_replicate
theorem infoK : (Try.prog.info? 49).map (·.size) = some 1024 := by kernel_rfl
theorem sizeK {l : List Nat} (h : l.length = 1024) : (Try.prog.info? 49).map (·.size) = some (cellsU l).toArray.size := by
  rw [List.size_toArray, List.length_map, h]; exact infoK
theorem run_alloc_K (w : World) : (Instr.alloc 49 true (.tuple #[])).run Try.prog w = .ok (.pointer (some ⟨w.heap.size, 0, none⟩)) (w.alloc (.cells (cellsU zerosK).toArray 49)) := by kernel_rfl
theorem run_build_K (w : World) : (Instr.build 49 #[]).run Try.prog w = .ok (rowUV zerosK) w := by kernel_rfl
section
variable {ops : Array Oper} {rest : List Oper} {o : Oper} {a : Act} {w : World} {Q : Exit → Act → World → Prop}
theorem wpList_build_K (hg : o.guard = none) (hop : o.op = Op.build 49 #[])
    (h : wpList Try.prog ops Q rest (a.put o.dst (rowUV zerosK)) w) : wpList Try.prog ops Q (o :: rest) a w := by
  refine wpList_plain hg fun K hK => ?_
  have hrun := run_build_K w
  unfold Oper.wp
  simp only [execOp, hop, Sem.run_bind, Array.map_empty, hrun, Result.andThen_ok, Sem.run_pure]
  exact hK _ _ h
theorem wpList_alloc_K (hg : o.guard = none) (hop : o.op = Op.alloc 49)
    (h : ∀ w', RowU 49 w.heap.size zerosK w' → KeptIn (· < w.heap.size) w w' → w'.heap.size = w.heap.size + 1 → wpList Try.prog ops Q rest (a.put o.dst (.pointer (some ⟨w.heap.size, 0, none⟩))) w') :
    wpList Try.prog ops Q (o :: rest) a w := by
  refine wpList_plain hg fun K hK => ?_
  have hrun := run_alloc_K w
  unfold Oper.wp
  simp only [execOp, hop, Sem.run_bind, hrun, Result.andThen_ok, Sem.run_pure]
  exact hK _ _ (h _ (heap_alloc_new w _) ((KeptIn.refl _ w).alloc (fun _ h => h) _) (by simp))
theorem wpList_store_K (hg : o.guard = none) (x y : Operand) (hop : o.op = .store 49 x y) (g : Nat) (l l' : List Nat) (hx : a.eval x = .pointer (some ⟨g, 0, none⟩)) (hy : a.eval y = rowUV l) (hl : l.length = 1024) (hl' : l'.length = 1024) (hb : RowU 49 g l' w)
    (h : ∀ w', RowU 49 g l w' → KeptIn (· ≠ g) w w' → w'.heap.size = w.heap.size → wpList Try.prog ops Q rest (a.put o.dst undef) w') :
    wpList Try.prog ops Q (o :: rest) a w := by
  refine wpList_store_row hg 49 x y hop g (cellsU l).toArray hx hy 49 _ hb (sizeK hl) (by simp [hl, hl']) (rowUOne l) (h _ (setRow_heap _ _ _ _ _ _ hb) ?_ (by simp))
  exact ⟨rfl, rfl, rfl, by simp, fun k hk => setRow_other _ _ _ _ hk⟩
theorem wpList_box_K (hg : o.guard = none) (x : Operand) (hop : o.op = .box 49 x) (l : List Nat) (hx : a.eval x = rowUV l)
    (h : ∀ w', RowU 49 w.heap.size l w' → KeptIn (· < w.heap.size) w w' → w'.heap.size = w.heap.size + 1 → wpList Try.prog ops Q rest (a.put o.dst (.pointer (some ⟨w.heap.size, 0, none⟩))) w') :
    wpList Try.prog ops Q (o :: rest) a w :=
  Go.Great.wpList_boxTo hg 49 x hop _ rfl _ rfl (cellsU l).toArray (by rw [hx]; rfl) (h _ (heap_alloc_new w _) ((KeptIn.refl _ w).alloc (fun _ h => h) _) (by simp))
end

end Go.Proofs.Ytdbohcdjamhdjaa
