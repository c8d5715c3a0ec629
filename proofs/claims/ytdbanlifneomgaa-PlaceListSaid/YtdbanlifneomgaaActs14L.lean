import Derived.Test.YtdbanlifneomgaaRows
import Derived.Test.YtdbanlifneomgaaPn14L
import Derived.Test.YtdbanlifneomgaaPao14L
import Derived.Deep.Slices
import Derived.ProofKit
/- A slice of layer 14's deeds that came in, opened to its elements' cells. -/
set_option linter.unusedVariables false
namespace Go.Proofs.Ytdbanlifneomgaa
open Go.RowKit Go.ChangeShapes Go.WideShapes Go.Deep

set_option maxRecDepth 100000 in
theorem acts14_open {H : Type} {enc : TypeId × Value → H} {W : World} {a : Option Addr} {len cap : Nat} {d : DataW H} {p : List MemPlace}
    (h : DataW.Trod enc Try.prog W 0 (fun _ => true) true 65 (.slice a len cap) d p) : IsActs14 W a len := by
  obtain ⟨fuel, hf⟩ := h
  rcases open_slice Try.underlying65 hf with ⟨hcs, _⟩ | ⟨x, l, c, m, n, D, Pl, hcs, _, hl, hm, hmm, _, hi⟩
  · simp [Value.cells] at hcs
    exact .inl hcs.2.1
  · simp [Value.cells] at hcs
    obtain ⟨rfl, rfl, rfl⟩ := hcs
    by_cases h0 : len = 0
    · exact .inl h0
    have hm' : m = cap := by simpa using hmm
    have hC : Try.prog.cellsOf 67 = 6 := by kernel_rfl
    rw [hC] at hi
    have one : ∀ i, i < len → ∃ (kd : Int) (z : Pla) (k q : Nat), (Lit.int .i64 kd).wf = true ∧ (Lit.int .i64 z.ch).wf = true ∧ k < 18446744073709551616 ∧ q < 18446744073709551616 ∧ W.cell? ((x.add (i * 6)).add 0) = some (.int .i64 kd) ∧ W.cell? ((x.add (i * 6)).add 1) = some (.int .i64 z.ch) ∧ W.cell? ((x.add (i * 6)).add 2) = some (.int .i64 z.tier) ∧ W.cell? ((x.add (i * 6)).add 3) = some (.int .i64 z.slot) ∧ W.cell? ((x.add (i * 6)).add 4) = some (.int .u64 (k : Int)) ∧ W.cell? ((x.add (i * 6)).add 5) = some (.int .u64 (q : Int)) := by
      intro i hil
      obtain ⟨cs, hc, ht⟩ := hi i (by omega)
      obtain ⟨_, hlen, hat⟩ := World.cells?_some hc
      obtain ⟨xs, n', _, _, _, hxl, hfl⟩ := DataW.trod_struct Try.underlying67 ht
      match cs, hlen with
      | [c0, c1, c2, c3, c4, c5], _ =>
        have e3 : Try.prog.cellsOf 3 = 1 := by kernel_rfl
        have e4 : Try.prog.cellsOf 47 = 3 := by kernel_rfl
        have e5 : Try.prog.cellsOf 50 = 2 := by kernel_rfl
        have f0 : DataW.trod enc Try.prog W 0 (fun _ => true) true n' 3 (([c0, c1, c2, c3, c4, c5].drop 0).take (Try.prog.cellsOf 3)) = xs[0]? := hfl 0 _ rfl
        have f1 : DataW.trod enc Try.prog W 0 (fun _ => true) true n' 47 (([c0, c1, c2, c3, c4, c5].drop 1).take (Try.prog.cellsOf 47)) = xs[1]? := hfl 1 _ rfl
        have f2 : DataW.trod enc Try.prog W 0 (fun _ => true) true n' 50 (([c0, c1, c2, c3, c4, c5].drop 4).take (Try.prog.cellsOf 50)) = xs[2]? := hfl 2 _ rfl
        rw [e3] at f0
        rw [e4] at f1
        rw [e5] at f2
        have hx5 : xs.length = 3 := hxl
        obtain ⟨kd, k1, _, k2⟩ := DataW.trod_int Try.underlying3 (f0.trans (List.getElem?_eq_getElem (by omega)))
        obtain ⟨z, ev, wi⟩ := pla_cells (cs := [c1, c2, c3]) rfl (f1.trans (List.getElem?_eq_getElem (by omega)))
        obtain ⟨k, q, ep, hk, hq⟩ := pair_cells (cs := [c4, c5]) rfl (f2.trans (List.getElem?_eq_getElem (by omega)))
        simp at k1 ev ep
        obtain ⟨rfl, rfl, rfl⟩ := ev
        obtain ⟨rfl, rfl⟩ := ep
        subst k1
        exact ⟨kd, z, k, q, k2, wi, hk, hq, by rw [hat 0 (by omega)]; rfl, by rw [hat 1 (by omega)]; rfl, by rw [hat 2 (by omega)]; rfl, by rw [hat 3 (by omega)]; rfl, by rw [hat 4 (by omega)]; rfl, by rw [hat 5 (by omega)]; rfl⟩
    obtain ⟨b, off, spot⟩ := x
    obtain ⟨_, _, _, _, _, _, _, _, hc0, _⟩ := one 0 (by omega)
    have hs : spot = none := by simpa [Addr.add] using World.cell?_spot hc0
    subst hs
    refine .inr ⟨b, off, rfl, ?_, by omega, fun i hil => ?_⟩
    · rw [addAdd14] at hc0
      rcases Nat.lt_or_ge b W.heap.size with h' | h'
      · exact h'
      · simp [World.cell?, Array.getElem?_eq_none h'] at hc0
    · have := one i hil
      simp only [addAdd14] at this
      exact this

end Go.Proofs.Ytdbanlifneomgaa
