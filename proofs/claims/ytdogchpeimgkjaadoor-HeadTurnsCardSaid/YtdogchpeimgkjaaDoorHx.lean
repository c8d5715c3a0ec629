/- Heads in variables: stores, results; readers of a text. -/
import Derived.Test.YtdogchpeimgkjaaDoorHg
set_option linter.unusedVariables false
namespace Go.Proofs.YtdogchpeimgkjaaDoor
open Go.RowKit

section
variable {x : Nat} {h : Hd} {W : World}
theorem BoxH.set0 (k : BoxH x h W) (v : Nat) : BoxH x ⟨v, h.root, h.slow, h.fast, h.chunk⟩ (W.setCell ⟨x, 0, none⟩ (.int .u64 v)) := (heap_setCell_same _ _ _ _ _ _ k).trans rfl
theorem BoxH.set1 (k : BoxH x h W) (v : Int) : BoxH x ⟨h.gen, v, h.slow, h.fast, h.chunk⟩ (W.setCell ⟨x, 1, none⟩ (.int .i64 v)) := (heap_setCell_same _ _ _ _ _ _ k).trans rfl
theorem BoxH.set2 (k : BoxH x h W) (v : Int) : BoxH x ⟨h.gen, h.root, v, h.fast, h.chunk⟩ (W.setCell ⟨x, 2, none⟩ (.int .i64 v)) := (heap_setCell_same _ _ _ _ _ _ k).trans rfl
theorem BoxH.set3 (k : BoxH x h W) (v : Int) : BoxH x ⟨h.gen, h.root, h.slow, v, h.chunk⟩ (W.setCell ⟨x, 3, none⟩ (.int .i64 v)) := (heap_setCell_same _ _ _ _ _ _ k).trans rfl
theorem BoxH.set4 (k : BoxH x h W) (v : Int) : BoxH x ⟨h.gen, h.root, h.slow, h.fast, v⟩ (W.setCell ⟨x, 4, none⟩ (.int .i64 v)) := (heap_setCell_same _ _ _ _ _ _ k).trans rfl
/-- A head stored whole. -/
theorem BoxH.put (k : BoxH x h W) (h' : Hd) : BoxH x h' (((((W.setCell ⟨x, 0, none⟩ (.int .u64 h'.gen)).setCell ⟨x, 1, none⟩ (.int .i64 h'.root)).setCell ⟨x, 2, none⟩ (.int .i64 h'.slow)).setCell ⟨x, 3, none⟩ (.int .i64 h'.fast)).setCell ⟨x, 4, none⟩ (.int .i64 h'.chunk)) :=
  ((((k.set0 h'.gen).set1 h'.root).set2 h'.slow).set3 h'.fast).set4 h'.chunk
theorem KeptIn.put {X : Nat → Prop} {w : World} (k : KeptIn X w W) (hx : ¬ X x) (h' : Hd) : KeptIn X w (((((W.setCell ⟨x, 0, none⟩ (.int .u64 h'.gen)).setCell ⟨x, 1, none⟩ (.int .i64 h'.root)).setCell ⟨x, 2, none⟩ (.int .i64 h'.slow)).setCell ⟨x, 3, none⟩ (.int .i64 h'.fast)).setCell ⟨x, 4, none⟩ (.int .i64 h'.chunk)) :=
  ((((k.setCell (p := ⟨x, 0, none⟩) hx _).setCell (p := ⟨x, 1, none⟩) hx _).setCell (p := ⟨x, 2, none⟩) hx _).setCell (p := ⟨x, 3, none⟩) hx _).setCell (p := ⟨x, 4, none⟩) hx _
/-- No head stored. -/
theorem BoxH.put0 (k : BoxH x h W) : BoxH x noH (((((W.setCell ⟨x, 0, none⟩ (.int .u64 0)).setCell ⟨x, 1, none⟩ (.int .i64 0)).setCell ⟨x, 2, none⟩ (.int .i64 0)).setCell ⟨x, 3, none⟩ (.int .i64 0)).setCell ⟨x, 4, none⟩ (.int .i64 0)) := k.put noH
theorem KeptIn.put0 {X : Nat → Prop} {w : World} (k : KeptIn X w W) (hx : ¬ X x) : KeptIn X w (((((W.setCell ⟨x, 0, none⟩ (.int .u64 0)).setCell ⟨x, 1, none⟩ (.int .i64 0)).setCell ⟨x, 2, none⟩ (.int .i64 0)).setCell ⟨x, 3, none⟩ (.int .i64 0)).setCell ⟨x, 4, none⟩ (.int .i64 0)) := k.put hx noH
/-- The cells of a variable that holds no head yet, and that each may be written. -/
theorem BoxH.zero (k : BoxH x noH W) : (W.cell? ⟨x, 0, none⟩ = some (.int .u64 0) ∧ W.cell? ⟨x, 1, none⟩ = some (.int .i64 0) ∧ W.cell? ⟨x, 2, none⟩ = some (.int .i64 0) ∧ W.cell? ⟨x, 3, none⟩ = some (.int .i64 0) ∧ W.cell? ⟨x, 4, none⟩ = some (.int .i64 0)) ∧
    (W.frozen? ⟨x, 0, none⟩ = false ∧ W.frozen? ⟨x, 1, none⟩ = false ∧ W.frozen? ⟨x, 2, none⟩ = false ∧ W.frozen? ⟨x, 3, none⟩ = false ∧ W.frozen? ⟨x, 4, none⟩ = false) :=
  ⟨⟨k.c0, k.c1, k.c2, k.c3, k.c4⟩, k.fz 0, k.fz 1, k.fz 2, k.fz 3, k.fz 4⟩

/-- What a function hands back whose first result is a head's variable. -/
theorem results_head {fn : Func} {p u : Tmp} (e : fn.results = #[.cell p 25, .tmp u]) (tmps : Array Value) (w : World) (x : Nat) (h : Hd)
    (hp : tmps.getD p undef = .pointer (some ⟨x, 0, none⟩)) (hb : BoxH x h w) : (results fn tmps).run Tryd.prog w = .ok (.tuple #[headV h, tmps.getD u undef]) w := by
  have hr := run_loadVar_row (P := Tryd.prog) w x 25 25 _ _ _ hb Tryd.underlying25 rfl (by kernel_rfl)
  rw [results_cell_tmp e, hp]
  simp [asAddr, hr, headV]
theorem results_head3 {fn : Func} {p u v : Tmp} (e : fn.results = #[.cell p 25, .tmp u, .tmp v]) (tmps : Array Value) (w : World) (x : Nat) (h : Hd)
    (hp : tmps.getD p undef = .pointer (some ⟨x, 0, none⟩)) (hb : BoxH x h w) : (results fn tmps).run Tryd.prog w = .ok (.tuple #[headV h, tmps.getD u undef, tmps.getD v undef]) w := by
  have hr := run_loadVar_row (P := Tryd.prog) w x 25 25 _ _ _ hb Tryd.underlying25 rfl (by kernel_rfl)
  have hp' : tmps[p]?.getD undef = .pointer (some ⟨x, 0, none⟩) := by simpa using hp
  simp [results, e, hp', asAddr, hr, headV]
end

end Go.Proofs.YtdogchpeimgkjaaDoor
