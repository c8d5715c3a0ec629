/- An array of two numbers that came in, opened. -/
import Derived.Test.YtipalcllmbmhfaaDoorRows
import Derived.Test.YtipalcllmbmhfaaDoorKept
import Derived.Lib.SmallJoins
import Derived.Laws.IdiomArrays
import Derived.Deep.Slices
import Derived.ProofKit
import Derived.WideShapes
set_option linter.unusedVariables false
namespace Go.Proofs.YtipalcllmbmhfaaDoor
open Go.RowKit Go.ChangeShapes Go.WideShapes Go.Deep Go.Joins

theorem okWide_arr {P : Program} {w : World} {r : Reach} {base : Nat} {t e : TypeId} {n : Nat} {v : Value} (ht : P.underlying t = some (.array n e)) (h : Value.okWide P w r base t v) : ∃ cs, v = .agg cs ∧ cs.size = P.cellsOf t := by
  simp only [Value.okWide, ht] at h
  obtain ⟨cs, h1, h2, _⟩ := h
  exact ⟨cs, h1, h2⟩

set_option maxRecDepth 100000 in
theorem two_open {H : Type} {enc : TypeId × Value → H} {W : World} {v : Value} {d : DataW H} {p : List MemPlace} (hv : ∃ cs, v = .agg cs ∧ cs.size = Tryd.prog.cellsOf 53)
    (h : DataW.Trod enc Tryd.prog W 0 (fun _ => true) true 53 v d p) : ∃ (sl ft : Int), v = .agg #[.int .i64 sl, .int .i64 ft] ∧ True := by
  obtain ⟨cs, rfl, hs⟩ := hv
  obtain ⟨fuel, hf⟩ := h
  have hC : Tryd.prog.cellsOf 53 = 2 := by kernel_rfl
  have hci : Tryd.prog.cellsOf 3 = 1 := by kernel_rfl
  rw [hC] at hs
  obtain ⟨l⟩ := cs
  change l.length = 2 at hs
  match l, hs with
  | [c2, c3], _ =>
    obtain ⟨xs, m2, _, _, _, hlen, hx⟩ := DataW.trod_array Tryd.underlying53 hf
    have g0 := hx 0 (by decide)
    have g1 := hx 1 (by decide)
    rw [hci] at g0 g1
    match xs, hlen with
    | [x0, x1], _ =>
      change DataW.trod enc Tryd.prog W 0 (fun _ => true) true m2 3 [c2] = some x0 at g0
      change DataW.trod enc Tryd.prog W 0 (fun _ => true) true m2 3 [c3] = some x1 at g1
      obtain ⟨s, e2, _, _⟩ := DataW.trod_int Tryd.underlying3 g0
      obtain ⟨f, e4, _, _⟩ := DataW.trod_int Tryd.underlying3 g1
      simp at e2 e4
      subst e2 e4
      exact ⟨s, f, rfl, trivial⟩

end Go.Proofs.YtipalcllmbmhfaaDoor
