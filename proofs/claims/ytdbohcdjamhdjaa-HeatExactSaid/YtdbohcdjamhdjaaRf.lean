/- A row of one-cell values in a block of its own, just as long as its block: cells, stores, frames. Of no program. -/
import Derived.Test.YtdbohcdjamhdjaaKept
import Derived.Test.YtdbohcdjamhdjaaChecked
import Derived.Laws.MakeOwn
import Derived.OwnWalk
import Derived.Carry
import Derived.WalkKit
import Derived.WalkSpells
import Derived.WalkLawsBesides
import Derived.RegionTactic
import Derived.Outline
import Derived.Deep.QuietTactic
import Derived.BigQuiet
import Derived.Deep.RegionHeld3
import Derived.LoopTactic
import Derived.Lib.Hide
set_option linter.unusedVariables false
namespace Go.Proofs.Ytdbohcdjamhdjaa
open Go.RowKit

/-- The block g is a row of T's, whose cells show the list. -/
def RowF {α : Type} (T : TypeId) (f : α → Value) (g : Nat) (l : List α) (w : World) : Prop := w.heap[g]? = some (.cells (l.map f).toArray T (0, 0))

section
variable {α : Type} {T : TypeId} {f : α → Value} {g : Nat} {l : List α} {w w' : World}
theorem RowF.lt (h : RowF T f g l w) : g < w.heap.size := (Array.getElem?_eq_some_iff.1 h).1
theorem RowF.kept (h : RowF T f g l w) (hb : w'.heap[g]? = w.heap[g]?) : RowF T f g l w' := hb.trans h
theorem RowF.cell (h : RowF T f g l w) (j : Nat) {x : α} (hj : l[j]? = some x) : w.cell? ⟨g, j, none⟩ = some (f x) := by
  unfold RowF at h
  simp [World.cell?, h, hj]
theorem RowF.fro (h : RowF T f g l w) (j : Nat) : w.frozen? ⟨g, j, none⟩ = false := by
  unfold RowF at h
  simp [World.frozen?, h]
theorem RowF.set (h : RowF T f g l w) (j : Nat) (x : α) : RowF T f g (l.set j x) (w.setCell ⟨g, j, none⟩ (f x)) := by
  unfold RowF at h ⊢
  simp [World.setCell, Array.getElem?_modify, h, List.map_set]
theorem RowF.ne {T' : TypeId} {k : Nat} {cs : Array Value} {fr : Nat × Nat} (h : RowF T f g l w) (hk : w.heap[k]? = some (.cells cs T' fr)) (ht : T' ≠ T) : k ≠ g := by
  rintro rfl
  unfold RowF at h
  rw [h] at hk
  simp only [Option.some.injEq, Obj.cells.injEq] at hk
  exact ht hk.2.1.symm
end

/-- What make leaves. -/
theorem rowF_made {α : Type} {T : TypeId} {f : α → Value} {w1 : World} {B u : Nat} {x : α} (h : w1.ownsRow B T 1 (.slice (some ⟨B, 0, none⟩) u u) u (List.replicate u (f x))) : RowF T f B (List.replicate u x) w1 := by
  rcases h.2 with ⟨h1, _⟩ | ⟨g, cap, cur, h1, _, h2, _, _, h3, h4⟩
  · cases h1
  · simp only [Value.slice.injEq, Option.some.injEq, Addr.mk.injEq, and_true, true_and] at h1
    obtain ⟨rfl, rfl⟩ := h1
    rw [List.take_of_length_le (by rw [Array.length_toList, h3]; omega)] at h4
    unfold RowF
    rw [h2, List.map_replicate, ← h4]

theorem made_one {f : Value} (n : Nat) : (madeCells #[f] (n * 1)).toList = List.replicate n f := by
  rw [List.eq_replicate_iff]
  refine ⟨by simp [madeCells], fun b hb => ?_⟩
  unfold madeCells at hb
  rw [Array.toList_map, List.mem_map] at hb
  obtain ⟨i, _, rfl⟩ := hb
  simp [Nat.mod_one]

theorem run_max2f {P : Program} {w : World} (ts : Array TypeId) (t : TypeId) (k k' : IntKind) (x y : Int) : (Builtin.max_ ts t #[.int k x, .int k' y]).run P w = .ok (.int k (max x y)) w := by
  rw [run_max_int2]
  congr 2
  split <;> omega
theorem run_min2f {P : Program} {w : World} (ts : Array TypeId) (t : TypeId) (k k' : IntKind) (x y : Int) : (Builtin.min_ ts t #[.int k x, .int k' y]).run P w = .ok (.int k (min x y)) w := by
  rw [run_min_int2]
  congr 2
  split <;> omega

theorem info1_parts {P : Program} {T : TypeId} {z : Value} {n b : Nat} (h : (P.info? T).map (fun i => (i.zero, i.size, i.bytes)) = some (some z, n, b)) : ∃ i, P.info? T = some i ∧ i.zero = some z ∧ i.size = n ∧ i.bytes = b := by
  cases hi : P.info? T with
  | none => simp [hi] at h
  | some i =>
    rw [hi] at h
    simp only [Option.map_some, Option.some.injEq, Prod.mk.injEq] at h
    exact ⟨i, rfl, h.1, h.2.1, h.2.2⟩

end Go.Proofs.Ytdbohcdjamhdjaa
