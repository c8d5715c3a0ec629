/- A slice of deeds that came in, opened to its elements' cells. -/
import Derived.Test.YtifealfkcfcbeaaDoorRows
import Derived.Test.YtifealfkcfcbeaaDoorWritesW
import Derived.Deep.Slices
import Derived.ProofKit
set_option linter.unusedVariables false
namespace Go.Proofs.YtifealfkcfcbeaaDoor
open Go.RowKit Go.ChangeShapes Go.WideShapes Go.Deep

theorem addAdd (b off i j : Nat) : ((⟨b, off, none⟩ : Addr).add i).add j = ⟨b, off + i + j, none⟩ := by
  have h : ∀ o k, (⟨b, o, none⟩ : Addr).add k = ⟨b, o + k, none⟩ := fun o k => by unfold Addr.add; split <;> simp_all
  rw [h, h]

theorem acts1_open {H : Type} {enc : TypeId × Value → H} {W : World} {a : Option Addr} {len cap : Nat} {d : DataW H} {p : List MemPlace}
    (h : DataW.Trod enc Tryd.prog W 0 (fun _ => true) true 22 (.slice a len cap) d p) : IsActs W a len := by
  obtain ⟨fuel, hf⟩ := h
  rcases open_slice Tryd.underlying22 hf with ⟨hcs, _⟩ | ⟨x, l, c, m, n, D, Pl, hcs, _, hl, hm, hmm, _, hi⟩
  · simp [Value.cells] at hcs
    exact .inl hcs.2.1
  · simp [Value.cells] at hcs
    obtain ⟨rfl, rfl, rfl⟩ := hcs
    by_cases h0 : len = 0
    · exact .inl h0
    have hm' : m = cap := by simpa using hmm
    have hC : Tryd.prog.cellsOf 30 = 4 := by kernel_rfl
    rw [hC] at hi
    -- each element
    have one : ∀ i, i < len → ∃ (k : Int) (n : Nat) (sz : Int) (s : ByteArray), (Lit.int .i64 k).wf = true ∧ n < 18446744073709551616 ∧ (Lit.int .i64 sz).wf = true ∧ s.size ≤ maxLen ∧
        W.cell? ((x.add (i * 4)).add 0) = some (.int .i64 k) ∧ W.cell? ((x.add (i * 4)).add 1) = some (.int .u64 n) ∧ W.cell? ((x.add (i * 4)).add 2) = some (.int .i64 sz) ∧ W.cell? ((x.add (i * 4)).add 3) = some (.string s) := by
      intro i hil
      obtain ⟨cs, hc, ht⟩ := hi i (by omega)
      obtain ⟨_, hlen, hat⟩ := World.cells?_some hc
      obtain ⟨xs, n', _, _, _, hxl, hfl⟩ := DataW.trod_struct Tryd.underlying30 ht
      match cs, hlen with
      | [c0, c1, c2, c3], _ =>
        have e3 : Tryd.prog.cellsOf 3 = 1 := by kernel_rfl
        have e28 : Tryd.prog.cellsOf 28 = 1 := by kernel_rfl
        have e9 : Tryd.prog.cellsOf 9 = 1 := by kernel_rfl
        have f0 : DataW.trod enc Tryd.prog W 0 (fun _ => true) true n' 3 (([c0, c1, c2, c3].drop 0).take (Tryd.prog.cellsOf 3)) = xs[0]? := hfl 0 _ rfl
        have f1 : DataW.trod enc Tryd.prog W 0 (fun _ => true) true n' 28 (([c0, c1, c2, c3].drop 1).take (Tryd.prog.cellsOf 28)) = xs[1]? := hfl 1 _ rfl
        have f2 : DataW.trod enc Tryd.prog W 0 (fun _ => true) true n' 3 (([c0, c1, c2, c3].drop 2).take (Tryd.prog.cellsOf 3)) = xs[2]? := hfl 2 _ rfl
        have f3 : DataW.trod enc Tryd.prog W 0 (fun _ => true) true n' 9 (([c0, c1, c2, c3].drop 3).take (Tryd.prog.cellsOf 9)) = xs[3]? := hfl 3 _ rfl
        rw [e3] at f0 f2
        rw [e28] at f1
        rw [e9] at f3
        have hx4 : xs.length = 4 := hxl
        obtain ⟨k, k1, _, k2⟩ := DataW.trod_int Tryd.underlying3 (f0.trans (List.getElem?_eq_getElem (by omega)))
        obtain ⟨m', m1, _, m2⟩ := DataW.trod_int Tryd.underlying28 (f1.trans (List.getElem?_eq_getElem (by omega)))
        obtain ⟨z, z1, _, z2⟩ := DataW.trod_int Tryd.underlying3 (f2.trans (List.getElem?_eq_getElem (by omega)))
        obtain ⟨s, s1, _, s2⟩ := DataW.trod_string Tryd.underlying9 (f3.trans (List.getElem?_eq_getElem (by omega)))
        simp at k1 m1 z1 s1
        subst k1 m1 z1 s1
        have bm := bounds_u64 m2
        obtain ⟨mm, rfl⟩ := Int.eq_ofNat_of_zero_le bm.1
        exact ⟨k, mm, z, s, k2, by omega, z2, s2, by rw [hat 0 (by omega)]; rfl, by rw [hat 1 (by omega)]; rfl, by rw [hat 2 (by omega)]; rfl, by rw [hat 3 (by omega)]; rfl⟩
    obtain ⟨b, off, spot⟩ := x
    obtain ⟨k, n, sz, s, _, _, _, _, hc0, _⟩ := one 0 (by omega)
    have hs : spot = none := by simpa [Addr.add] using World.cell?_spot hc0
    subst hs
    refine .inr ⟨b, off, rfl, ?_, by omega, fun i hil => ?_⟩
    · rw [addAdd] at hc0
      rcases Nat.lt_or_ge b W.heap.size with h' | h'
      · exact h'
      · simp [World.cell?, Array.getElem?_eq_none h'] at hc0
    · obtain ⟨k, n, sz, s, w1, w2, w3, w4, g0, g1, g2, g3⟩ := one i hil
      rw [addAdd] at g0 g1 g2 g3
      exact ⟨k, n, sz, s, w1, w2, w3, w4, g0, g1, g2, g3⟩

end Go.Proofs.YtifealfkcfcbeaaDoor
