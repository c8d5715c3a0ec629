/- A slice of chunks that came in, opened to its elements' cells. -/
import Derived.Test.YtjhmcfhbjfjmkaaRows
import Derived.Test.YtjhmcfhbjfjmkaaPm16
import Derived.Deep.Slices
import Derived.ProofKit
set_option linter.unusedVariables false
namespace Go.Proofs.Ytjhmcfhbjfjmkaa
open Go.RowKit Go.ChangeShapes Go.WideShapes Go.Deep

theorem addAdd16 (b off i j : Nat) : ((⟨b, off, none⟩ : Addr).add i).add j = ⟨b, off + i + j, none⟩ := by
  have h : ∀ o k, (⟨b, o, none⟩ : Addr).add k = ⟨b, o + k, none⟩ := fun o k => by unfold Addr.add; split <;> simp_all
  rw [h, h]

set_option maxRecDepth 100000 in
theorem its16_open {H : Type} {enc : TypeId × Value → H} {W : World} {a : Option Addr} {len cap : Nat} {d : DataW H} {p : List MemPlace}
    (h : DataW.Trod enc Try.prog W 0 (fun _ => true) true 22 (.slice a len cap) d p) : IsIts16 W a len := by
  obtain ⟨fuel, hf⟩ := h
  rcases open_slice Try.underlying22 hf with ⟨hcs, _⟩ | ⟨x, l, c, m, n, D, Pl, hcs, _, hl, hm, hmm, _, hi⟩
  · simp [Value.cells] at hcs
    exact .inl hcs.2.1
  · simp [Value.cells] at hcs
    obtain ⟨rfl, rfl, rfl⟩ := hcs
    by_cases h0 : len = 0
    · exact .inl h0
    have hm' : m = cap := by simpa using hmm
    have hC : Try.prog.cellsOf 35 = 5 := by kernel_rfl
    rw [hC] at hi
    have one : ∀ i, i < len → ∃ y : It16, GdI y ∧ W.cell? ((x.add (i * 5)).add 0) = some (.int .i64 y.ch) ∧ W.cell? ((x.add (i * 5)).add 1) = some (.int .i64 y.he) ∧ W.cell? ((x.add (i * 5)).add 2) = some (.int .i64 y.ti) ∧ W.cell? ((x.add (i * 5)).add 3) = some (.bool y.pn) ∧ W.cell? ((x.add (i * 5)).add 4) = some (.bool y.bu) := by
      intro i hil
      obtain ⟨cs, hc, ht⟩ := hi i (by omega)
      obtain ⟨_, hlen, hat⟩ := World.cells?_some hc
      obtain ⟨xs, n', _, _, _, hxl, hfl⟩ := DataW.trod_struct Try.underlying35 ht
      match cs, hlen with
      | [c0, c1, c2, c3, c4], _ =>
        have e3 : Try.prog.cellsOf 3 = 1 := by kernel_rfl
        have e4 : Try.prog.cellsOf 4 = 1 := by kernel_rfl
        have f0 : DataW.trod enc Try.prog W 0 (fun _ => true) true n' 3 (([c0, c1, c2, c3, c4].drop 0).take (Try.prog.cellsOf 3)) = xs[0]? := hfl 0 _ rfl
        have f1 : DataW.trod enc Try.prog W 0 (fun _ => true) true n' 3 (([c0, c1, c2, c3, c4].drop 1).take (Try.prog.cellsOf 3)) = xs[1]? := hfl 1 _ rfl
        have f2 : DataW.trod enc Try.prog W 0 (fun _ => true) true n' 3 (([c0, c1, c2, c3, c4].drop 2).take (Try.prog.cellsOf 3)) = xs[2]? := hfl 2 _ rfl
        have f3 : DataW.trod enc Try.prog W 0 (fun _ => true) true n' 4 (([c0, c1, c2, c3, c4].drop 3).take (Try.prog.cellsOf 4)) = xs[3]? := hfl 3 _ rfl
        have f4 : DataW.trod enc Try.prog W 0 (fun _ => true) true n' 4 (([c0, c1, c2, c3, c4].drop 4).take (Try.prog.cellsOf 4)) = xs[4]? := hfl 4 _ rfl
        rw [e3] at f0 f1 f2
        rw [e4] at f3 f4
        have hx5 : xs.length = 5 := hxl
        obtain ⟨k, k1, _, k2⟩ := DataW.trod_int Try.underlying3 (f0.trans (List.getElem?_eq_getElem (by omega)))
        obtain ⟨q, q1, _, q2⟩ := DataW.trod_int Try.underlying3 (f1.trans (List.getElem?_eq_getElem (by omega)))
        obtain ⟨z, z1, _, z2⟩ := DataW.trod_int Try.underlying3 (f2.trans (List.getElem?_eq_getElem (by omega)))
        obtain ⟨p, p1, _⟩ := DataW.trod_bool Try.underlying4 (f3.trans (List.getElem?_eq_getElem (by omega)))
        obtain ⟨u, u1, _⟩ := DataW.trod_bool Try.underlying4 (f4.trans (List.getElem?_eq_getElem (by omega)))
        simp at k1 q1 z1 p1 u1
        subst k1 q1 z1 p1 u1
        exact ⟨⟨k, q, z, p, u⟩, ⟨k2, q2, z2⟩, by rw [hat 0 (by omega)]; rfl, by rw [hat 1 (by omega)]; rfl, by rw [hat 2 (by omega)]; rfl, by rw [hat 3 (by omega)]; rfl, by rw [hat 4 (by omega)]; rfl⟩
    obtain ⟨b, off, spot⟩ := x
    obtain ⟨_, _, hc0, _⟩ := one 0 (by omega)
    have hs : spot = none := by simpa [Addr.add] using World.cell?_spot hc0
    subst hs
    refine .inr ⟨b, off, rfl, ?_, by omega, fun i hil => ?_⟩
    · rw [addAdd16] at hc0
      rcases Nat.lt_or_ge b W.heap.size with h' | h'
      · exact h'
      · simp [World.cell?, Array.getElem?_eq_none h'] at hc0
    · obtain ⟨y, hy, g0, g1, g2, g3, g4⟩ := one i hil
      rw [addAdd16] at g0 g1 g2 g3 g4
      exact ⟨y, hy, g0, g1, g2, g3, g4⟩

end Go.Proofs.Ytjhmcfhbjfjmkaa
