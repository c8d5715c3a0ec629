/- A head that came in, opened. -/
import Derived.Test.YtdogchpeimgkjaaDoorRows
import Derived.Test.YtdogchpeimgkjaaDoorHd
import Derived.Lib.SmallJoins
import Derived.Laws.IdiomArrays
import Derived.Deep.Slices
import Derived.ProofKit
set_option linter.unusedVariables false
namespace Go.Proofs.YtdogchpeimgkjaaDoor
open Go.RowKit Go.ChangeShapes Go.WideShapes Go.Deep Go.Joins

theorem gen_of_wf {x : Int} (h : (Lit.int .u64 x).wf = true) : ∃ n : Nat, x = (n : Int) := by
  have hb := bounds_u64 h
  exact Int.eq_ofNat_of_zero_le hb.1

set_option maxRecDepth 100000 in
theorem head_open {H : Type} {enc : TypeId × Value → H} {W : World} {v : Value} {d : DataW H} {p : List MemPlace} (hv : ∃ cs, v = .agg cs ∧ cs.size = Tryd.prog.cellsOf 25)
    (h : DataW.Trod enc Tryd.prog W 0 (fun _ => true) true 25 v d p) : ∃ (g : Nat) (r s f c : Int), v = headV ⟨g, r, s, f, c⟩ ∧ True := by
  obtain ⟨cs, rfl, _⟩ := hv
  obtain ⟨fuel, hf⟩ := h
  obtain ⟨y0, y1, y2, y3, m, _, hl, h0, h1, h2, h3⟩ := trod_struct4 Tryd.underlying25 hf
  have hC : Tryd.prog.cellsOf 25 = 5 := by kernel_rfl
  have hci : Tryd.prog.cellsOf 3 = 1 := by kernel_rfl
  have hcu : Tryd.prog.cellsOf 22 = 1 := by kernel_rfl
  have hc2 : Tryd.prog.cellsOf 23 = 2 := by kernel_rfl
  rw [hC] at hl
  obtain ⟨l⟩ := cs
  change l.length = 5 at hl
  match l, hl with
  | [c0, c1, c2, c3, c4], _ =>
    change DataW.trod enc Tryd.prog W 0 (fun _ => true) true m 22 (([c0, c1, c2, c3, c4].drop 0).take (Tryd.prog.cellsOf 22)) = some y0 at h0
    change DataW.trod enc Tryd.prog W 0 (fun _ => true) true m 3 (([c0, c1, c2, c3, c4].drop 1).take (Tryd.prog.cellsOf 3)) = some y1 at h1
    change DataW.trod enc Tryd.prog W 0 (fun _ => true) true m 23 (([c0, c1, c2, c3, c4].drop 2).take (Tryd.prog.cellsOf 23)) = some y2 at h2
    change DataW.trod enc Tryd.prog W 0 (fun _ => true) true m 3 (([c0, c1, c2, c3, c4].drop 4).take (Tryd.prog.cellsOf 3)) = some y3 at h3
    rw [hcu] at h0
    rw [hci] at h1 h3
    rw [hc2] at h2
    obtain ⟨u, e0, _, u2⟩ := DataW.trod_int Tryd.underlying22 h0
    obtain ⟨r, e1, _, _⟩ := DataW.trod_int Tryd.underlying3 h1
    obtain ⟨c, e3, _, _⟩ := DataW.trod_int Tryd.underlying3 h3
    obtain ⟨xs, m2, _, _, _, hlen, hx⟩ := DataW.trod_array Tryd.underlying23 h2
    have g0 := hx 0 (by decide)
    have g1 := hx 1 (by decide)
    rw [hci] at g0 g1
    match xs, hlen with
    | [x0, x1], _ =>
      change DataW.trod enc Tryd.prog W 0 (fun _ => true) true m2 3 [c2] = some x0 at g0
      change DataW.trod enc Tryd.prog W 0 (fun _ => true) true m2 3 [c3] = some x1 at g1
      obtain ⟨s, e2, _, _⟩ := DataW.trod_int Tryd.underlying3 g0
      obtain ⟨f, e4, _, _⟩ := DataW.trod_int Tryd.underlying3 g1
      simp at e0 e1 e2 e3 e4
      subst e0 e1 e2 e3 e4
      obtain ⟨g, rfl⟩ := gen_of_wf u2
      exact ⟨g, r, s, f, c, rfl, trivial⟩

end Go.Proofs.YtdogchpeimgkjaaDoor
