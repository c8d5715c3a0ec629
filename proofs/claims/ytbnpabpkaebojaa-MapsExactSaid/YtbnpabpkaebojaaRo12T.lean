import Derived.Test.YtbnpabpkaebojaaMf12T
import Derived.WalkKit
import Derived.WalkSpells
import Derived.WalkLawsBesides
import Derived.RegionTactic
import Derived.BigRegion
import Derived.Deep.MidRow
import Derived.Great.BuildSlice
import Derived.Lib.Hide
/- A variable of 64 places: made, stored whole, read whole: laws of the walk. -/
set_option linter.unusedVariables false
namespace Go.Proofs.Ytbnpabpkaebojaa
open Go.RowKit

/-- No place is taken. -/
def zerosM : List Nat := List.replicate 64 0
theorem zerosM_length : zerosM.length = 64 := by unfold zerosM; simp
theorem zerosM_row : zerosM = rowU [] := rowU_nil.symm
abbrev cellsM (l : List Nat) : List Value := l.map iv
theorem infoRow12 : (Try.prog.info? 58).map (·.size) = some 64 := by kernel_rfl
theorem rowSize {l : List Nat} (h : l.length = 64) : (Try.prog.info? 58).map (·.size) = some (cellsM l).toArray.size := by
  rw [List.size_toArray, List.length_map, h]; exact infoRow12
theorem infoRowZ12 : (Try.prog.info? 58).map (fun i => (i.zero, i.size, i.bytes)) = some (some (rowV zerosM), 64, 512) := by kernel_rfl
theorem rowV_cells (l : List Nat) : (rowV l).cells = (cellsM l).toArray := rfl
theorem cellsM_one (l : List Nat) : ∀ u ∈ cellsM l, u.oneCell' = true := by
  intro u hu
  obtain ⟨n, _, rfl⟩ := List.mem_map.1 hu
  rfl
theorem rowOne (l : List Nat) : (cellsM l).toArray.all (·.oneCell') = true := all_oneCell_toArray (cellsM_one l)

theorem run_alloc_row12 (w : World) : (Instr.alloc 58 true (.tuple #[])).run Try.prog w = .ok (.pointer (some ⟨w.heap.size, 0, none⟩)) (w.alloc (.cells (cellsM zerosM).toArray 58)) := by kernel_rfl
theorem run_build_row12 (w : World) : (Instr.build 58 #[]).run Try.prog w = .ok (rowV zerosM) w := by kernel_rfl

section
variable {ops : Array Oper} {rest : List Oper} {o : Oper} {a : Act} {w : World} {Q : Exit → Act → World → Prop}

theorem wpList_build_row12 (hg : o.guard = none) (hop : o.op = Op.build 58 #[])
    (h : wpList Try.prog ops Q rest (a.put o.dst (rowV zerosM)) w) : wpList Try.prog ops Q (o :: rest) a w := by
  refine wpList_plain hg fun K hK => ?_
  have hrun := run_build_row12 w
  unfold Oper.wp
  simp only [execOp, hop, Sem.run_bind, Array.map_empty, hrun, Result.andThen_ok, Sem.run_pure]
  exact hK _ _ h
theorem wpList_alloc_row12 (hg : o.guard = none) (hop : o.op = Op.alloc 58)
    (h : ∀ w', RowM w.heap.size zerosM w' → KeptIn (· < w.heap.size) w w' → w'.heap.size = w.heap.size + 1 → wpList Try.prog ops Q rest (a.put o.dst (.pointer (some ⟨w.heap.size, 0, none⟩))) w') :
    wpList Try.prog ops Q (o :: rest) a w := by
  refine wpList_plain hg fun K hK => ?_
  have hrun := run_alloc_row12 w
  unfold Oper.wp
  simp only [execOp, hop, Sem.run_bind, hrun, Result.andThen_ok, Sem.run_pure]
  exact hK _ _ (h _ (heap_alloc_new w _) ((KeptIn.refl _ _).alloc (fun _ h => h) _) (by simp))
theorem wpList_store_row12 (hg : o.guard = none) (x y : Operand) (hop : o.op = .store 58 x y) (g : Nat) (l l' : List Nat) (hx : a.eval x = .pointer (some ⟨g, 0, none⟩)) (hy : a.eval y = rowV l) (hl : l.length = 64) (hl' : l'.length = 64) (hb : RowM g l' w)
    (h : ∀ w', RowM g l w' → KeptIn (· ≠ g) w w' → w'.heap.size = w.heap.size → wpList Try.prog ops Q rest (a.put o.dst undef) w') :
    wpList Try.prog ops Q (o :: rest) a w := by
  refine wpList_store_row hg 58 x y hop g (cellsM l).toArray hx hy 58 _ hb (rowSize hl) (by simp [hl, hl']) (rowOne l) (h _ (setRow_heap _ _ _ _ _ _ hb) ?_ (by simp))
  exact ⟨rfl, rfl, rfl, by simp, fun k hk => setRow_other _ _ _ _ hk⟩
theorem wpList_load_row12 (hg : o.guard = none) (x : Operand) (hop : o.op = .load 58 x) (g : Nat) (l : List Nat) (hx : a.eval x = .pointer (some ⟨g, 0, none⟩)) (hl : l.length = 64) (hb : RowM g l w)
    (h : wpList Try.prog ops Q rest (a.put o.dst (rowV l)) w) : wpList Try.prog ops Q (o :: rest) a w :=
  wpList_load_row hg 58 x hop g hx 58 _ _ _ hb Try.underlying58 rfl (rowSize hl) h
/-- Out of the middle of a block. -/
theorem wpList_load_mid12 (hg : o.guard = none) (x : Operand) (hop : o.op = .load 58 x) (g off : Nat) (l : List Nat) (hx : a.eval x = .pointer (some ⟨g, off, none⟩)) (hl : l.length = 64) (hb : w.rangeAt g off (cellsM l))
    (h : wpList Try.prog ops Q rest (a.put o.dst (rowV l)) w) : wpList Try.prog ops Q (o :: rest) a w :=
  wpList_load_mid hg 58 x hop g off hx (cellsM l) _ hb Try.underlying58 rfl (by have := rowSize hl; rwa [List.size_toArray] at this) h
theorem fill_row12 (z : Array Value) (hz : z.size = 64) (l : List Nat) (hl : l.length = 64) : Instr.fill (fun i => some (i * 64, 64)) z [(0, rowV l)] = some (cellsM l).toArray := by
  have h := Go.Great.fill_whole (s := 64) (by omega) [rowV l] z (fun v hv => by rw [List.mem_singleton.1 hv, rowV_cells]; simp [hl]) (by simp [hz])
  simpa [rowV_cells] using h
/-- A slice of one row. -/
theorem wpList_slice_row12 (hg : o.guard = none) (x : Operand) (hop : o.op = Op.buildSlice 59 1 #[(0, x)]) (l : List Nat) (hx : a.eval x = rowV l) (hl : l.length = 64)
    (h : wpList Try.prog ops Q rest (a.put o.dst (.slice (some ⟨w.heap.size, 0, none⟩) 1 1)) (w.alloc (.cells (cellsM l).toArray 58))) : wpList Try.prog ops Q (o :: rest) a w := by
  have h0 := infoRowZ12
  cases hi : Try.prog.info? 58 with
  | none => simp [hi] at h0
  | some ie =>
    rw [hi] at h0
    simp only [Option.map_some, Option.some.injEq, Prod.mk.injEq] at h0
    obtain ⟨h1, h2, h3⟩ := h0
    refine wpList_buildSlice hg 59 58 1 #[(0, x)] hop (cellsM l).toArray ie (rowV zerosM) Try.underlying59 hi h1 (by rw [h2]; decide) (by rw [h2]; decide) ?_ h
    rw [h2]
    have e : (#[(0, x)].map fun (p : Nat × Operand) => (p.1, a.eval p.2)).toList = [(0, rowV l)] := by simp [hx]
    exact (congrArg _ e).trans (fill_row12 _ (by simp) l hl)

/-- The same where the operation is guarded, and wanted. -/
theorem wpList_load_row12g (x : Operand) (hop : o.op = .load 58 x) (hw : Region.wanted o (yielded ops a.tmps) = true) (g : Nat) (l : List Nat) (hx : a.eval x = .pointer (some ⟨g, 0, none⟩)) (hl : l.length = 64) (hb : RowM g l w)
    (h : wpList Try.prog ops Q rest (a.put o.dst (rowV l)) w) : wpList Try.prog ops Q (o :: rest) a w :=
  wpList_step fun K hK => by
    rw [if_pos hw]
    exact wp_load_row 58 x hop g hx 58 _ _ _ hb Try.underlying58 rfl (rowSize hl) (hK _ _ h)
theorem wpList_load_mid12g (x : Operand) (hop : o.op = .load 58 x) (hw : Region.wanted o (yielded ops a.tmps) = true) (g off : Nat) (l : List Nat) (hx : a.eval x = .pointer (some ⟨g, off, none⟩)) (hl : l.length = 64) (hb : w.rangeAt g off (cellsM l))
    (h : wpList Try.prog ops Q rest (a.put o.dst (rowV l)) w) : wpList Try.prog ops Q (o :: rest) a w :=
  wpList_step fun K hK => by
    rw [if_pos hw]
    exact wp_load_mid 58 x hop g off hx (cellsM l) _ hb Try.underlying58 rfl (by have := rowSize hl; rwa [List.size_toArray] at this) (hK _ _ h)
end

theorem news_row12 (V : World) (l : List Nat) : ∀ j u, (cellsM l)[j]? = some u → (V.alloc (.cells (cellsM l).toArray 58)).cell? ((⟨V.heap.size, 0, none⟩ : Addr).add j) = some u := by
  intro j u h
  rw [addr_add, cell_of_row _ _ _ _ _ _ (heap_alloc_new V _)]
  simpa using h

end Go.Proofs.Ytbnpabpkaebojaa
