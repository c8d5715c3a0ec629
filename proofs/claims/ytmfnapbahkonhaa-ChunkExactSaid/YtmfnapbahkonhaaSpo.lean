/- A spot that came in, opened. -/
import Derived.Test.YtmfnapbahkonhaaRows
import Derived.Test.YtmfnapbahkonhaaSpt
import Derived.Deep.Slices
import Derived.ProofKit
set_option linter.unusedVariables false
namespace Go.Proofs.Ytmfnapbahkonhaa
open Go.RowKit Go.ChangeShapes Go.WideShapes Go.Deep

set_option maxRecDepth 100000 in
/-- A spot's cells. -/
theorem spot_cells {H : Type} {enc : TypeId × Value → H} {W : World} {cs : List Value} {d : DataW H} {p : List MemPlace} {n : Nat} (hl : cs.length = 2)
    (h : DataW.trod enc Try.prog W 0 (fun _ => true) true n 36 cs = some (d, p)) : ∃ (x : Sp), cs = [.int .i64 x.ti, .int .i64 x.sl] ∧ (Lit.int .i64 x.ti).wf = true := by
  obtain ⟨xs, n', _, _, _, hxl, hfl⟩ := DataW.trod_struct Try.underlying36 h
  match cs, hl with
  | [c0, c1], _ =>
    have e3 : Try.prog.cellsOf 3 = 1 := by kernel_rfl
    have f0 : DataW.trod enc Try.prog W 0 (fun _ => true) true n' 3 (([c0, c1].drop 0).take (Try.prog.cellsOf 3)) = xs[0]? := hfl 0 _ rfl
    have f1 : DataW.trod enc Try.prog W 0 (fun _ => true) true n' 3 (([c0, c1].drop 1).take (Try.prog.cellsOf 3)) = xs[1]? := hfl 1 _ rfl
    rw [e3] at f0 f1
    have hx5 : xs.length = 2 := hxl
    obtain ⟨t, g0, _, wt⟩ := DataW.trod_int Try.underlying3 (f0.trans (List.getElem?_eq_getElem (by omega)))
    obtain ⟨s, g1, _, _⟩ := DataW.trod_int Try.underlying3 (f1.trans (List.getElem?_eq_getElem (by omega)))
    simp at g0 g1
    subst g0 g1
    exact ⟨⟨t, s⟩, rfl, wt⟩

theorem sp_open {H : Type} {enc : TypeId × Value → H} {W : World} {v : Value} {d : DataW H} {p : List MemPlace} (hv : ∃ cs, v = .agg cs ∧ cs.size = Try.prog.cellsOf 36)
    (h : DataW.Trod enc Try.prog W 0 (fun _ => true) true 36 v d p) : ∃ (ti sl : Int), v = spV ⟨ti, sl⟩ ∧ (Lit.int .i64 ti).wf = true := by
  obtain ⟨cs, rfl, hs⟩ := hv
  obtain ⟨fuel, hf⟩ := h
  have hC : Try.prog.cellsOf 36 = 2 := by kernel_rfl
  rw [hC] at hs
  obtain ⟨l⟩ := cs
  obtain ⟨x, e, wx⟩ := spot_cells (cs := l) hs hf
  exact ⟨x.ti, x.sl, by rw [e]; rfl, wx⟩

end Go.Proofs.Ytmfnapbahkonhaa
