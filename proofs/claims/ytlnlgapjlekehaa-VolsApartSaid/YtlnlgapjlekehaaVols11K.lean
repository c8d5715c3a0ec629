import Derived.Test.YtlnlgapjlekehaaRows
import Derived.Test.YtlnlgapjlekehaaJ3
import Derived.Deep.Slices
import Derived.ProofKit
/- A volume that came in, a pair that came in, opened. -/
set_option linter.unusedVariables false
namespace Go.Proofs.Ytlnlgapjlekehaa
open Go.RowKit Go.ChangeShapes Go.WideShapes Go.Deep

theorem u64_of_wf11 {x : Int} (h : (Lit.int .u64 x).wf = true) : ∃ n : Nat, x = (n : Int) ∧ n < 18446744073709551616 := by
  have hb := bounds_u64 h
  obtain ⟨n, rfl⟩ := Int.eq_ofNat_of_zero_le hb.1
  exact ⟨n, rfl, by omega⟩

set_option maxRecDepth 100000 in
/-- A volume's cells. -/
theorem vol_cells2 {H : Type} {enc : TypeId × Value → H} {W : World} {cs : List Value} {d : DataW H} {p : List MemPlace} {n : Nat} (hl : cs.length = 5)
    (h : DataW.trod enc Try.prog W 0 (fun _ => true) true n 60 cs = some (d, p)) : ∃ (id size root : Int) (pin : Bool) (frm : Int), cs = [.int .i64 id, .int .i64 size, .int .i64 root, .bool pin, .int .i64 frm] ∧ (Lit.int .i64 id).wf = true := by
  obtain ⟨xs, n', _, _, _, hxl, hfl⟩ := DataW.trod_struct Try.underlying60 h
  match cs, hl with
  | [c0, c1, c2, c3, c4], _ =>
    have e3 : Try.prog.cellsOf 3 = 1 := by kernel_rfl
    have e4 : Try.prog.cellsOf 4 = 1 := by kernel_rfl
    have f0 : DataW.trod enc Try.prog W 0 (fun _ => true) true n' 3 (([c0, c1, c2, c3, c4].drop 0).take (Try.prog.cellsOf 3)) = xs[0]? := hfl 0 _ rfl
    have f1 : DataW.trod enc Try.prog W 0 (fun _ => true) true n' 3 (([c0, c1, c2, c3, c4].drop 1).take (Try.prog.cellsOf 3)) = xs[1]? := hfl 1 _ rfl
    have f2 : DataW.trod enc Try.prog W 0 (fun _ => true) true n' 3 (([c0, c1, c2, c3, c4].drop 2).take (Try.prog.cellsOf 3)) = xs[2]? := hfl 2 _ rfl
    have f3 : DataW.trod enc Try.prog W 0 (fun _ => true) true n' 4 (([c0, c1, c2, c3, c4].drop 3).take (Try.prog.cellsOf 4)) = xs[3]? := hfl 3 _ rfl
    have f4 : DataW.trod enc Try.prog W 0 (fun _ => true) true n' 3 (([c0, c1, c2, c3, c4].drop 4).take (Try.prog.cellsOf 3)) = xs[4]? := hfl 4 _ rfl
    rw [e3] at f0 f1 f2 f4
    rw [e4] at f3
    have hx5 : xs.length = 5 := hxl
    obtain ⟨k0, g0, _, wi⟩ := DataW.trod_int Try.underlying3 (f0.trans (List.getElem?_eq_getElem (by omega)))
    obtain ⟨k1, g1, _, _⟩ := DataW.trod_int Try.underlying3 (f1.trans (List.getElem?_eq_getElem (by omega)))
    obtain ⟨k2, g2, _, _⟩ := DataW.trod_int Try.underlying3 (f2.trans (List.getElem?_eq_getElem (by omega)))
    obtain ⟨k3, g3, _⟩ := DataW.trod_bool Try.underlying4 (f3.trans (List.getElem?_eq_getElem (by omega)))
    obtain ⟨k4, g4, _, _⟩ := DataW.trod_int Try.underlying3 (f4.trans (List.getElem?_eq_getElem (by omega)))
    simp at g0 g1 g2 g3 g4
    subst g0 g1 g2 g3 g4
    exact ⟨k0, k1, k2, k3, k4, rfl, wi⟩
theorem vol_cells {H : Type} {enc : TypeId × Value → H} {W : World} {cs : List Value} {d : DataW H} {p : List MemPlace} {n : Nat} (hl : cs.length = 5)
    (h : DataW.trod enc Try.prog W 0 (fun _ => true) true n 60 cs = some (d, p)) : ∃ (id size root : Int) (pin : Bool) (frm : Int), cs = [.int .i64 id, .int .i64 size, .int .i64 root, .bool pin, .int .i64 frm] := by
  obtain ⟨a, b, c, d, e, h1, _⟩ := vol_cells2 hl h
  exact ⟨a, b, c, d, e, h1⟩

set_option maxRecDepth 100000 in
theorem pair_cells {H : Type} {enc : TypeId × Value → H} {W : World} {cs : List Value} {d : DataW H} {p : List MemPlace} {n : Nat} (hl : cs.length = 2)
    (h : DataW.trod enc Try.prog W 0 (fun _ => true) true n 38 cs = some (d, p)) : ∃ (k x : Nat), cs = [.int .u64 (k : Int), .int .u64 (x : Int)] ∧ k < 18446744073709551616 ∧ x < 18446744073709551616 := by
  obtain ⟨xs, n', _, _, _, hxl, hfl⟩ := DataW.trod_struct Try.underlying38 h
  match cs, hl with
  | [c0, c1], _ =>
    have e3 : Try.prog.cellsOf 30 = 1 := by kernel_rfl
    have f0 : DataW.trod enc Try.prog W 0 (fun _ => true) true n' 30 (([c0, c1].drop 0).take (Try.prog.cellsOf 30)) = xs[0]? := hfl 0 _ rfl
    have f1 : DataW.trod enc Try.prog W 0 (fun _ => true) true n' 30 (([c0, c1].drop 1).take (Try.prog.cellsOf 30)) = xs[1]? := hfl 1 _ rfl
    rw [e3] at f0 f1
    have hx5 : xs.length = 2 := hxl
    obtain ⟨k, k1, _, k2⟩ := DataW.trod_int Try.underlying30 (f0.trans (List.getElem?_eq_getElem (by omega)))
    obtain ⟨q, q1, _, q2⟩ := DataW.trod_int Try.underlying30 (f1.trans (List.getElem?_eq_getElem (by omega)))
    simp at k1 q1
    subst k1 q1
    obtain ⟨u, rfl, hu⟩ := u64_of_wf11 k2
    obtain ⟨r, rfl, hr⟩ := u64_of_wf11 q2
    exact ⟨u, r, rfl, hu, hr⟩

theorem vol_open {H : Type} {enc : TypeId × Value → H} {W : World} {v : Value} {d : DataW H} {p : List MemPlace} (hv : ∃ cs, v = .agg cs ∧ cs.size = Try.prog.cellsOf 60)
    (h : DataW.Trod enc Try.prog W 0 (fun _ => true) true 60 v d p) : ∃ (id size root : Int) (pin : Bool) (frm : Int), v = volV ⟨id, size, root, pin, frm⟩ ∧ True := by
  obtain ⟨cs, rfl, hs⟩ := hv
  obtain ⟨fuel, hf⟩ := h
  have hC : Try.prog.cellsOf 60 = 5 := by kernel_rfl
  rw [hC] at hs
  obtain ⟨l⟩ := cs
  obtain ⟨id, size, root, pin, frm, e⟩ := vol_cells (cs := l) hs hf
  exact ⟨id, size, root, pin, frm, by rw [e]; rfl, trivial⟩

theorem pair_open {H : Type} {enc : TypeId × Value → H} {W : World} {v : Value} {d : DataW H} {p : List MemPlace} (hv : ∃ cs, v = .agg cs ∧ cs.size = Try.prog.cellsOf 38)
    (h : DataW.Trod enc Try.prog W 0 (fun _ => true) true 38 v d p) : ∃ (k x : Nat), v = pairV (k, x) ∧ (k < 18446744073709551616 ∧ x < 18446744073709551616) := by
  obtain ⟨cs, rfl, hs⟩ := hv
  obtain ⟨fuel, hf⟩ := h
  have hC : Try.prog.cellsOf 38 = 2 := by kernel_rfl
  rw [hC] at hs
  obtain ⟨l⟩ := cs
  obtain ⟨k, x, e, hkx⟩ := pair_cells (cs := l) hs hf
  exact ⟨k, x, by rw [e]; rfl, hkx⟩

end Go.Proofs.Ytlnlgapjlekehaa
