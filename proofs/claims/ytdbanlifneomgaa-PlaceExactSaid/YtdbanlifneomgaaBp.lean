/- A pair in a box; functions that answer one. -/
import Derived.Test.YtdbanlifneomgaaBx
import Derived.Test.YtdbanlifneomgaaPg
set_option linter.unusedVariables false
namespace Go.Proofs.Ytdbanlifneomgaa
open Go.RowKit

/-- A pair, boxed. -/
def BoxP (x k v : Nat) (W : World) : Prop := W.heap[x]? = some (.cells #[.int .u64 (k : Int), .int .u64 (v : Int)] 50 (0, 0))
section
variable {x k v : Nat} {W W' : World}
theorem BoxP.c0 (h : BoxP x k v W) : W.cell? ⟨x, 0, none⟩ = some (.int .u64 (k : Int)) := by simp [World.cell?, show W.heap[x]? = _ from h]
theorem BoxP.c1 (h : BoxP x k v W) : W.cell? ⟨x, 1, none⟩ = some (.int .u64 (v : Int)) := by simp [World.cell?, show W.heap[x]? = _ from h]
theorem BoxP.f0 (h : BoxP x k v W) : W.frozen? ⟨x, 0, none⟩ = false := by simp [World.frozen?, show W.heap[x]? = _ from h]
theorem BoxP.f1 (h : BoxP x k v W) : W.frozen? ⟨x, 1, none⟩ = false := by simp [World.frozen?, show W.heap[x]? = _ from h]
theorem BoxP.lt (h : BoxP x k v W) : x < W.heap.size := (Array.getElem?_eq_some_iff.1 h).1
theorem BoxP.kept {X : Nat → Prop} (h : BoxP x k v W) (hk : KeptIn X W W') (hX : X x) : BoxP x k v W' := (hk.block x hX).trans h
theorem BoxP.new (w : World) (k v : Nat) : BoxP w.heap.size k v (w.alloc (.cells #[.int .u64 (k : Int), .int .u64 (v : Int)] 50)) := heap_alloc_new w _
theorem BoxP.set (h : BoxP x k v W) (k' v' : Nat) : BoxP x k' v' ((W.setCell ⟨x, 0, none⟩ (.int .u64 (k' : Int))).setCell ⟨x, 1, none⟩ (.int .u64 (v' : Int))) := by
  have h1 : (W.setCell ⟨x, 0, none⟩ (.int .u64 (k' : Int))).heap[x]? = _ := heap_setCell_same _ _ _ _ _ _ h
  have h2 : ((W.setCell ⟨x, 0, none⟩ (.int .u64 (k' : Int))).setCell ⟨x, 1, none⟩ (.int .u64 (v' : Int))).heap[x]? = _ := heap_setCell_same _ _ _ _ _ _ h1
  exact h2.trans rfl
end
theorem results_pair_tmp {fn : Func} {p u : Tmp} (h : fn.results = #[.cell p 50, .tmp u]) (tmps : Array Value) (w : World) (x k v : Nat)
    (hp : tmps.getD p undef = .pointer (some ⟨x, 0, none⟩)) (hb : BoxP x k v w) : (results fn tmps).run Try.prog w = .ok (.tuple #[pairV (k, v), tmps.getD u undef]) w := by
  have hr := run_loadVar_row (P := Try.prog) w x 50 50 _ _ _ hb Try.underlying50 rfl (by kernel_rfl)
  rw [results_cell_tmp h, hp]
  simp [asAddr, hr, pairV]
theorem results_pair {fn : Func} {p : Tmp} (h : fn.results = #[.cell p 50]) (tmps : Array Value) (w : World) (x k v : Nat)
    (hp : tmps.getD p undef = .pointer (some ⟨x, 0, none⟩)) (hb : BoxP x k v w) : (results fn tmps).run Try.prog w = .ok (pairV (k, v)) w := by
  have hr := run_loadVar_row (P := Try.prog) w x 50 50 _ _ _ hb Try.underlying50 rfl (by kernel_rfl)
  have hp' : tmps[p]?.getD undef = .pointer (some ⟨x, 0, none⟩) := by simpa using hp
  simp [results, h, hp', asAddr, hr, pairV]

end Go.Proofs.Ytdbanlifneomgaa
