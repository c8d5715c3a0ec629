/- A slice of layer 15's deeds that came in, opened to its elements' cells. -/
import Derived.Test.YtdbohcdjamhdjaaRows
import Derived.Test.YtdbohcdjamhdjaaExaW15
import Derived.Deep.Slices
import Derived.ProofKit
set_option linter.unusedVariables false
namespace Go.Proofs.Ytdbohcdjamhdjaa
open Go.RowKit Go.ChangeShapes Go.WideShapes Go.Deep

theorem addAdd15 (b off i j : Nat) : ((⟨b, off, none⟩ : Addr).add i).add j = ⟨b, off + i + j, none⟩ := by
  have h : ∀ o k, (⟨b, o, none⟩ : Addr).add k = ⟨b, o + k, none⟩ := fun o k => by unfold Addr.add; split <;> simp_all
  rw [h, h]

set_option maxRecDepth 100000 in
theorem acts15_open {H : Type} {enc : TypeId × Value → H} {W : World} {a : Option Addr} {len cap : Nat} {d : DataW H} {p : List MemPlace}
    (h : DataW.Trod enc Try.prog W 0 (fun _ => true) true 44 (.slice a len cap) d p) : IsActs15 W a len := by
  obtain ⟨fuel, hf⟩ := h
  rcases open_slice Try.underlying44 hf with ⟨hcs, _⟩ | ⟨x, l, c, m, n, D, Pl, hcs, _, hl, hm, hmm, _, hi⟩
  · simp [Value.cells] at hcs
    exact .inl hcs.2.1
  · simp [Value.cells] at hcs
    obtain ⟨rfl, rfl, rfl⟩ := hcs
    by_cases h0 : len = 0
    · exact .inl h0
    have hm' : m = cap := by simpa using hmm
    have hC : Try.prog.cellsOf 51 = 3 := by kernel_rfl
    rw [hC] at hi
    -- each element
    have one : ∀ i, i < len → ∃ (k q z : Int), (Lit.int .i64 k).wf = true ∧ (Lit.int .i64 q).wf = true ∧ (Lit.int .i64 z).wf = true ∧ W.cell? ((x.add (i * 3)).add 0) = some (.int .i64 k) ∧ W.cell? ((x.add (i * 3)).add 1) = some (.int .i64 q) ∧ W.cell? ((x.add (i * 3)).add 2) = some (.int .i64 z) := by
      intro i hil
      obtain ⟨cs, hc, ht⟩ := hi i (by omega)
      obtain ⟨_, hlen, hat⟩ := World.cells?_some hc
      obtain ⟨xs, n', _, _, _, hxl, hfl⟩ := DataW.trod_struct Try.underlying51 ht
      match cs, hlen with
      | [c0, c1, c2], _ =>
        have e3 : Try.prog.cellsOf 3 = 1 := by kernel_rfl
        have f0 : DataW.trod enc Try.prog W 0 (fun _ => true) true n' 3 (([c0, c1, c2].drop 0).take (Try.prog.cellsOf 3)) = xs[0]? := hfl 0 _ rfl
        have f1 : DataW.trod enc Try.prog W 0 (fun _ => true) true n' 3 (([c0, c1, c2].drop 1).take (Try.prog.cellsOf 3)) = xs[1]? := hfl 1 _ rfl
        have f2 : DataW.trod enc Try.prog W 0 (fun _ => true) true n' 3 (([c0, c1, c2].drop 2).take (Try.prog.cellsOf 3)) = xs[2]? := hfl 2 _ rfl
        rw [e3] at f0 f1 f2
        have hx5 : xs.length = 3 := hxl
        obtain ⟨k, k1, _, k2⟩ := DataW.trod_int Try.underlying3 (f0.trans (List.getElem?_eq_getElem (by omega)))
        obtain ⟨q, q1, _, q2⟩ := DataW.trod_int Try.underlying3 (f1.trans (List.getElem?_eq_getElem (by omega)))
        obtain ⟨z, z1, _, z2⟩ := DataW.trod_int Try.underlying3 (f2.trans (List.getElem?_eq_getElem (by omega)))
        simp at k1 q1 z1
        subst k1 q1 z1
        exact ⟨k, q, z, k2, q2, z2, by rw [hat 0 (by omega)]; rfl, by rw [hat 1 (by omega)]; rfl, by rw [hat 2 (by omega)]; rfl⟩
    obtain ⟨b, off, spot⟩ := x
    obtain ⟨k, q, z, _, _, _, hc0, _⟩ := one 0 (by omega)
    have hs : spot = none := by simpa [Addr.add] using World.cell?_spot hc0
    subst hs
    refine .inr ⟨b, off, rfl, ?_, by omega, fun i hil => ?_⟩
    · rw [addAdd15] at hc0
      rcases Nat.lt_or_ge b W.heap.size with h' | h'
      · exact h'
      · simp [World.cell?, Array.getElem?_eq_none h'] at hc0
    · obtain ⟨k, q, z, w1, w2, w3, g0, g1, g2⟩ := one i hil
      rw [addAdd15] at g0 g1 g2
      exact ⟨k, q, z, w1, w2, w3, g0, g1, g2⟩

end Go.Proofs.Ytdbohcdjamhdjaa
