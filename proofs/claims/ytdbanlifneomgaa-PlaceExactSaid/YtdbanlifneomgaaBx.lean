/- A boxed node. -/
import Derived.Test.YtdbanlifneomgaaLf
set_option linter.unusedVariables false
namespace Go.Proofs.Ytdbanlifneomgaa
open Go.RowKit

/-- A node, boxed. -/
def BoxL (x : Nat) (lv : Int) (a : Option Addr) (n cap : Nat) (W : World) : Prop := W.heap[x]? = some (.cells #[.int .i64 lv, .slice a n cap] 27 (0, 0))
section
variable {x n cap : Nat} {lv : Int} {a : Option Addr} {W W' : World}
theorem BoxL.c0 (h : BoxL x lv a n cap W) : W.cell? ⟨x, 0, none⟩ = some (.int .i64 lv) := by simp [World.cell?, show W.heap[x]? = _ from h]
theorem BoxL.c1 (h : BoxL x lv a n cap W) : W.cell? ⟨x, 1, none⟩ = some (.slice a n cap) := by simp [World.cell?, show W.heap[x]? = _ from h]
theorem BoxL.f0 (h : BoxL x lv a n cap W) : W.frozen? ⟨x, 0, none⟩ = false := by simp [World.frozen?, show W.heap[x]? = _ from h]
theorem BoxL.f1 (h : BoxL x lv a n cap W) : W.frozen? ⟨x, 1, none⟩ = false := by simp [World.frozen?, show W.heap[x]? = _ from h]
theorem BoxL.lt (h : BoxL x lv a n cap W) : x < W.heap.size := (Array.getElem?_eq_some_iff.1 h).1
theorem BoxL.kept {X : Nat → Prop} (h : BoxL x lv a n cap W) (hk : KeptIn X W W') (hX : X x) : BoxL x lv a n cap W' := (hk.block x hX).trans h
theorem BoxL.new (w : World) (lv : Int) (a : Option Addr) (n cap : Nat) : BoxL w.heap.size lv a n cap (w.alloc (.cells #[.int .i64 lv, .slice a n cap] 27)) := heap_alloc_new w _
end


end Go.Proofs.Ytdbanlifneomgaa
