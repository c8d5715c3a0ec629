import Derived.Test.YtdbanlifneomgaaRows
import Derived.Test.YtdbanlifneomgaaM3
import Derived.Deep.Slices
import Derived.ProofKit
/- A pair that came in, opened. -/
set_option linter.unusedVariables false
namespace Go.Proofs.Ytdbanlifneomgaa
open Go.RowKit Go.ChangeShapes Go.WideShapes Go.Deep

theorem u64_of_wf11 {x : Int} (h : (Lit.int .u64 x).wf = true) : ∃ n : Nat, x = (n : Int) ∧ n < 18446744073709551616 := by
  have hb := bounds_u64 h
  obtain ⟨n, rfl⟩ := Int.eq_ofNat_of_zero_le hb.1
  exact ⟨n, rfl, by omega⟩

set_option maxRecDepth 100000 in
theorem pair_cells {H : Type} {enc : TypeId × Value → H} {W : World} {cs : List Value} {d : DataW H} {p : List MemPlace} {n : Nat} (hl : cs.length = 2)
    (h : DataW.trod enc Try.prog W 0 (fun _ => true) true n 50 cs = some (d, p)) : ∃ (k x : Nat), cs = [.int .u64 (k : Int), .int .u64 (x : Int)] ∧ k < 18446744073709551616 ∧ x < 18446744073709551616 := by
  obtain ⟨xs, n', _, _, _, hxl, hfl⟩ := DataW.trod_struct Try.underlying50 h
  match cs, hl with
  | [c0, c1], _ =>
    have e3 : Try.prog.cellsOf 48 = 1 := by kernel_rfl
    have f0 : DataW.trod enc Try.prog W 0 (fun _ => true) true n' 48 (([c0, c1].drop 0).take (Try.prog.cellsOf 48)) = xs[0]? := hfl 0 _ rfl
    have f1 : DataW.trod enc Try.prog W 0 (fun _ => true) true n' 48 (([c0, c1].drop 1).take (Try.prog.cellsOf 48)) = xs[1]? := hfl 1 _ rfl
    rw [e3] at f0 f1
    have hx5 : xs.length = 2 := hxl
    obtain ⟨k, k1, _, k2⟩ := DataW.trod_int Try.underlying48 (f0.trans (List.getElem?_eq_getElem (by omega)))
    obtain ⟨q, q1, _, q2⟩ := DataW.trod_int Try.underlying48 (f1.trans (List.getElem?_eq_getElem (by omega)))
    simp at k1 q1
    subst k1 q1
    obtain ⟨u, rfl, hu⟩ := u64_of_wf11 k2
    obtain ⟨r, rfl, hr⟩ := u64_of_wf11 q2
    exact ⟨u, r, rfl, hu, hr⟩

theorem pair_open {H : Type} {enc : TypeId × Value → H} {W : World} {v : Value} {d : DataW H} {p : List MemPlace} (hv : ∃ cs, v = .agg cs ∧ cs.size = Try.prog.cellsOf 50)
    (h : DataW.Trod enc Try.prog W 0 (fun _ => true) true 50 v d p) : ∃ (k x : Nat), v = pairV (k, x) ∧ (k < 18446744073709551616 ∧ x < 18446744073709551616) := by
  obtain ⟨cs, rfl, hs⟩ := hv
  obtain ⟨fuel, hf⟩ := h
  have hC : Try.prog.cellsOf 50 = 2 := by kernel_rfl
  rw [hC] at hs
  obtain ⟨l⟩ := cs
  obtain ⟨k, x, e, hkx⟩ := pair_cells (cs := l) hs hf
  exact ⟨k, x, by rw [e]; rfl, hkx⟩

end Go.Proofs.Ytdbanlifneomgaa
