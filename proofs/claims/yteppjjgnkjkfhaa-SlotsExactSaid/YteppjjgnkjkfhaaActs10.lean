/- A slice of layer 10's deeds that came in, opened to its elements' cells. -/
import Derived.Test.YteppjjgnkjkfhaaRows
import Derived.Test.YteppjjgnkjkfhaaSlExW
import Derived.Deep.Slices
import Derived.ProofKit
set_option linter.unusedVariables false
namespace Go.Proofs.Yteppjjgnkjkfhaa
open Go.RowKit Go.ChangeShapes Go.WideShapes Go.Deep

theorem addAdd10 (b off i j : Nat) : ((⟨b, off, none⟩ : Addr).add i).add j = ⟨b, off + i + j, none⟩ := by
  have h : ∀ o k, (⟨b, o, none⟩ : Addr).add k = ⟨b, o + k, none⟩ := fun o k => by unfold Addr.add; split <;> simp_all
  rw [h, h]

set_option maxRecDepth 100000 in
theorem acts10_open {H : Type} {enc : TypeId × Value → H} {W : World} {a : Option Addr} {len cap : Nat} {d : DataW H} {p : List MemPlace}
    (h : DataW.Trod enc Try.prog W 0 (fun _ => true) true 22 (.slice a len cap) d p) : IsActs10 W a len := by
  obtain ⟨fuel, hf⟩ := h
  rcases open_slice Try.underlying22 hf with ⟨hcs, _⟩ | ⟨x, l, c, m, n, D, Pl, hcs, _, hl, hm, hmm, _, hi⟩
  · simp [Value.cells] at hcs
    exact .inl hcs.2.1
  · simp [Value.cells] at hcs
    obtain ⟨rfl, rfl, rfl⟩ := hcs
    by_cases h0 : len = 0
    · exact .inl h0
    have hm' : m = cap := by simpa using hmm
    have hC : Try.prog.cellsOf 28 = 2 := by kernel_rfl
    rw [hC] at hi
    -- each element
    have one : ∀ i, i < len → ∃ (k q : Int), (Lit.int .i64 k).wf = true ∧ (Lit.int .i64 q).wf = true ∧ W.cell? ((x.add (i * 2)).add 0) = some (.int .i64 k) ∧ W.cell? ((x.add (i * 2)).add 1) = some (.int .i64 q) := by
      intro i hil
      obtain ⟨cs, hc, ht⟩ := hi i (by omega)
      obtain ⟨_, hlen, hat⟩ := World.cells?_some hc
      obtain ⟨xs, n', _, _, _, hxl, hfl⟩ := DataW.trod_struct Try.underlying28 ht
      match cs, hlen with
      | [c0, c1], _ =>
        have e3 : Try.prog.cellsOf 3 = 1 := by kernel_rfl
        have f0 : DataW.trod enc Try.prog W 0 (fun _ => true) true n' 3 (([c0, c1].drop 0).take (Try.prog.cellsOf 3)) = xs[0]? := hfl 0 _ rfl
        have f1 : DataW.trod enc Try.prog W 0 (fun _ => true) true n' 3 (([c0, c1].drop 1).take (Try.prog.cellsOf 3)) = xs[1]? := hfl 1 _ rfl
        rw [e3] at f0 f1
        have hx5 : xs.length = 2 := hxl
        obtain ⟨k, k1, _, k2⟩ := DataW.trod_int Try.underlying3 (f0.trans (List.getElem?_eq_getElem (by omega)))
        obtain ⟨q, q1, _, q2⟩ := DataW.trod_int Try.underlying3 (f1.trans (List.getElem?_eq_getElem (by omega)))
        simp at k1 q1
        subst k1 q1
        exact ⟨k, q, k2, q2, by rw [hat 0 (by omega)]; rfl, by rw [hat 1 (by omega)]; rfl⟩
    obtain ⟨b, off, spot⟩ := x
    obtain ⟨k, q, _, _, hc0, _⟩ := one 0 (by omega)
    have hs : spot = none := by simpa [Addr.add] using World.cell?_spot hc0
    subst hs
    refine .inr ⟨b, off, rfl, ?_, by omega, fun i hil => ?_⟩
    · rw [addAdd10] at hc0
      rcases Nat.lt_or_ge b W.heap.size with h' | h'
      · exact h'
      · simp [World.cell?, Array.getElem?_eq_none h'] at hc0
    · obtain ⟨k, q, w1, w2, g0, g1⟩ := one i hil
      rw [addAdd10] at g0 g1
      exact ⟨k, q, w1, w2, g0, g1⟩

end Go.Proofs.Yteppjjgnkjkfhaa
