/- A spot that came in, a chunk on its way that came in, opened. -/
import Derived.Test.YtaaohockmpmaoaaRows
import Derived.Test.YtaaohockmpmaoaaMv17
import Derived.Deep.Slices
import Derived.ProofKit
set_option linter.unusedVariables false
namespace Go.Proofs.Ytaaohockmpmaoaa
open Go.RowKit Go.ChangeShapes Go.WideShapes Go.Deep

set_option maxRecDepth 100000 in
/-- A spot's cells. -/
theorem spot_cells {H : Type} {enc : TypeId × Value → H} {W : World} {cs : List Value} {d : DataW H} {p : List MemPlace} {n : Nat} (hl : cs.length = 2)
    (h : DataW.trod enc Try.prog W 0 (fun _ => true) true n 23 cs = some (d, p)) : ∃ (x : Sp), cs = [.int .i64 x.ti, .int .i64 x.sl] ∧ (Lit.int .i64 x.ti).wf = true := by
  obtain ⟨xs, n', _, _, _, hxl, hfl⟩ := DataW.trod_struct Try.underlying23 h
  match cs, hl with
  | [c0, c1], _ =>
    have e3 : Try.prog.cellsOf 3 = 1 := by kernel_rfl
    have f0 : DataW.trod enc Try.prog W 0 (fun _ => true) true n' 3 (([c0, c1].drop 0).take (Try.prog.cellsOf 3)) = xs[0]? := hfl 0 _ rfl
    have f1 : DataW.trod enc Try.prog W 0 (fun _ => true) true n' 3 (([c0, c1].drop 1).take (Try.prog.cellsOf 3)) = xs[1]? := hfl 1 _ rfl
    rw [e3] at f0 f1
    have hx5 : xs.length = 2 := hxl
    obtain ⟨t, g0, _, wt⟩ := DataW.trod_int Try.underlying3 (f0.trans (List.getElem?_eq_getElem (by omega)))
    obtain ⟨s, g1, _, _⟩ := DataW.trod_int Try.underlying3 (f1.trans (List.getElem?_eq_getElem (by omega)))
    simp at g0 g1
    subst g0 g1
    exact ⟨⟨t, s⟩, rfl, wt⟩

theorem sp_open {H : Type} {enc : TypeId × Value → H} {W : World} {v : Value} {d : DataW H} {p : List MemPlace} (hv : ∃ cs, v = .agg cs ∧ cs.size = Try.prog.cellsOf 23)
    (h : DataW.Trod enc Try.prog W 0 (fun _ => true) true 23 v d p) : ∃ (ti sl : Int), v = spV ⟨ti, sl⟩ ∧ (Lit.int .i64 ti).wf = true := by
  obtain ⟨cs, rfl, hs⟩ := hv
  obtain ⟨fuel, hf⟩ := h
  have hC : Try.prog.cellsOf 23 = 2 := by kernel_rfl
  rw [hC] at hs
  obtain ⟨l⟩ := cs
  obtain ⟨x, e, wx⟩ := spot_cells (cs := l) hs hf
  exact ⟨x.ti, x.sl, by rw [e]; rfl, wx⟩

set_option maxRecDepth 100000 in
theorem mv_open {H : Type} {enc : TypeId × Value → H} {W : World} {v : Value} {d : DataW H} {p : List MemPlace} (hv : ∃ cs, v = .agg cs ∧ cs.size = Try.prog.cellsOf 25)
    (h : DataW.Trod enc Try.prog W 0 (fun _ => true) true 25 v d p) : ∃ (ch ft fs tt ts ph : Int), v = mvV ⟨ch, ⟨ft, fs⟩, ⟨tt, ts⟩, ph⟩ ∧ (Lit.int .i64 ft).wf = true ∧ (Lit.int .i64 tt).wf = true := by
  obtain ⟨cs, rfl, hs⟩ := hv
  obtain ⟨n, h⟩ := h
  have hC : Try.prog.cellsOf 25 = 6 := by kernel_rfl
  rw [hC] at hs
  obtain ⟨l⟩ := cs
  obtain ⟨xs, n', _, _, _, hxl, hfl⟩ := DataW.trod_struct Try.underlying25 h
  match l, hs with
  | [c0, c1, c2, c3, c4, c5], _ =>
    have e3 : Try.prog.cellsOf 3 = 1 := by kernel_rfl
    have e4 : Try.prog.cellsOf 23 = 2 := by kernel_rfl
    have f0 : DataW.trod enc Try.prog W 0 (fun _ => true) true n' 3 (([c0, c1, c2, c3, c4, c5].drop 0).take (Try.prog.cellsOf 3)) = xs[0]? := hfl 0 _ rfl
    have f1 : DataW.trod enc Try.prog W 0 (fun _ => true) true n' 23 (([c0, c1, c2, c3, c4, c5].drop 1).take (Try.prog.cellsOf 23)) = xs[1]? := hfl 1 _ rfl
    have f2 : DataW.trod enc Try.prog W 0 (fun _ => true) true n' 23 (([c0, c1, c2, c3, c4, c5].drop 3).take (Try.prog.cellsOf 23)) = xs[2]? := hfl 2 _ rfl
    have f3 : DataW.trod enc Try.prog W 0 (fun _ => true) true n' 3 (([c0, c1, c2, c3, c4, c5].drop 5).take (Try.prog.cellsOf 3)) = xs[3]? := hfl 3 _ rfl
    rw [e3] at f0 f3
    rw [e4] at f1 f2
    have hx5 : xs.length = 4 := hxl
    obtain ⟨ch, g0, _, _⟩ := DataW.trod_int Try.underlying3 (f0.trans (List.getElem?_eq_getElem (by omega)))
    obtain ⟨ph, g3, _, _⟩ := DataW.trod_int Try.underlying3 (f3.trans (List.getElem?_eq_getElem (by omega)))
    have h1 : DataW.trod enc Try.prog W 0 (fun _ => true) true n' 23 [c1, c2] = some xs[1] := f1.trans (List.getElem?_eq_getElem (by omega))
    have h2 : DataW.trod enc Try.prog W 0 (fun _ => true) true n' 23 [c3, c4] = some xs[2] := f2.trans (List.getElem?_eq_getElem (by omega))
    obtain ⟨a, ga, wa⟩ := spot_cells rfl h1
    obtain ⟨b, gb, wb⟩ := spot_cells rfl h2
    simp at g0 g3 ga gb
    obtain ⟨rfl, rfl⟩ := ga
    obtain ⟨rfl, rfl⟩ := gb
    subst g0 g3
    exact ⟨ch, a.ti, a.sl, b.ti, b.sl, ph, rfl, wa, wb⟩

end Go.Proofs.Ytaaohockmpmaoaa
