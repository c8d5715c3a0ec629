/- A slice of layer 18's deeds that came in, opened to its elements' cells. -/
import Derived.Test.YtmfnapbahkonhaaSpo
import Derived.Test.YtmfnapbahkonhaaExaW18
set_option linter.unusedVariables false
namespace Go.Proofs.Ytmfnapbahkonhaa
open Go.RowKit Go.ChangeShapes Go.WideShapes Go.Deep

theorem addAdd18 (b off i j : Nat) : ((⟨b, off, none⟩ : Addr).add i).add j = ⟨b, off + i + j, none⟩ := by
  have h : ∀ o k, (⟨b, o, none⟩ : Addr).add k = ⟨b, o + k, none⟩ := fun o k => by unfold Addr.add; split <;> simp_all
  rw [h, h]
theorem i64_of_wf18 {x : Int} (h : (Lit.int .i64 x).wf = true) : I64 x := by
  simp [Lit.wf, IntKind.min, IntKind.max, IntKind.signed, IntKind.bits] at h
  omega
theorem byte_of_wf18 {x : Int} (h : (Lit.int .u8 x).wf = true) : ∃ b : UInt8, x = (b.toNat : Int) := by
  have h : 0 ≤ x ∧ x ≤ 255 := by
    simp [Lit.wf, IntKind.min, IntKind.max, IntKind.signed, IntKind.bits] at h
    omega
  exact ⟨UInt8.ofNat x.toNat, by rw [UInt8.toNat_ofNat']; omega⟩

set_option maxRecDepth 100000 in
theorem acts18_open {H : Type} {enc : TypeId × Value → H} {W : World} {a : Option Addr} {len cap : Nat} {d : DataW H} {p : List MemPlace}
    (h : DataW.Trod enc Try.prog W 0 (fun _ => true) true 22 (.slice a len cap) d p) : IsActs18 W a len := by
  obtain ⟨fuel, hf⟩ := h
  rcases open_slice Try.underlying22 hf with ⟨hcs, _⟩ | ⟨x, l, c, m, n, D, Pl, hcs, _, hl, hm, hmm, _, hi⟩
  · simp [Value.cells] at hcs
    exact .inl hcs.2.1
  · simp [Value.cells] at hcs
    obtain ⟨rfl, rfl, rfl⟩ := hcs
    by_cases h0 : len = 0
    · exact .inl h0
    have hm' : m = cap := by simpa using hmm
    have hC : Try.prog.cellsOf 38 = 8 := by kernel_rfl
    rw [hC] at hi
    -- each element
    have one : ∀ i, i < len → ∃ z : A18, (I64 z.at' ∧ I64 z.n) ∧ W.cell? ((x.add (i * 8)).add 0) = some (.int .i64 z.kd) ∧ W.cell? ((x.add (i * 8)).add 1) = some (.int .i64 z.a.ti) ∧ W.cell? ((x.add (i * 8)).add 2) = some (.int .i64 z.a.sl) ∧ W.cell? ((x.add (i * 8)).add 3) = some (.int .i64 z.c.ti) ∧
        W.cell? ((x.add (i * 8)).add 4) = some (.int .i64 z.c.sl) ∧ W.cell? ((x.add (i * 8)).add 5) = some (.int .i64 z.at') ∧ W.cell? ((x.add (i * 8)).add 6) = some (.int .i64 z.n) ∧ W.cell? ((x.add (i * 8)).add 7) = some (.int .u8 z.b.toNat) := by
      intro i hil
      obtain ⟨cs, hc, ht⟩ := hi i (by omega)
      obtain ⟨_, hlen, hat⟩ := World.cells?_some hc
      obtain ⟨xs, n', _, _, _, hxl, hfl⟩ := DataW.trod_struct Try.underlying38 ht
      match cs, hlen with
      | [c0, c1, c2, c3, c4, c5, c6, c7], _ =>
        have e3 : Try.prog.cellsOf 3 = 1 := by kernel_rfl
        have e4 : Try.prog.cellsOf 36 = 2 := by kernel_rfl
        have e5 : Try.prog.cellsOf 5 = 1 := by kernel_rfl
        have f0 : DataW.trod enc Try.prog W 0 (fun _ => true) true n' 3 (([c0, c1, c2, c3, c4, c5, c6, c7].drop 0).take (Try.prog.cellsOf 3)) = xs[0]? := hfl 0 _ rfl
        have f1 : DataW.trod enc Try.prog W 0 (fun _ => true) true n' 36 (([c0, c1, c2, c3, c4, c5, c6, c7].drop 1).take (Try.prog.cellsOf 36)) = xs[1]? := hfl 1 _ rfl
        have f2 : DataW.trod enc Try.prog W 0 (fun _ => true) true n' 36 (([c0, c1, c2, c3, c4, c5, c6, c7].drop 3).take (Try.prog.cellsOf 36)) = xs[2]? := hfl 2 _ rfl
        have f3 : DataW.trod enc Try.prog W 0 (fun _ => true) true n' 3 (([c0, c1, c2, c3, c4, c5, c6, c7].drop 5).take (Try.prog.cellsOf 3)) = xs[3]? := hfl 3 _ rfl
        have f4 : DataW.trod enc Try.prog W 0 (fun _ => true) true n' 3 (([c0, c1, c2, c3, c4, c5, c6, c7].drop 6).take (Try.prog.cellsOf 3)) = xs[4]? := hfl 4 _ rfl
        have f5 : DataW.trod enc Try.prog W 0 (fun _ => true) true n' 5 (([c0, c1, c2, c3, c4, c5, c6, c7].drop 7).take (Try.prog.cellsOf 5)) = xs[5]? := hfl 5 _ rfl
        rw [e3] at f0 f3 f4
        rw [e4] at f1 f2
        rw [e5] at f5
        have hx5 : xs.length = 6 := hxl
        obtain ⟨kd, g0, _, _⟩ := DataW.trod_int Try.underlying3 (f0.trans (List.getElem?_eq_getElem (by omega)))
        obtain ⟨at', g3, _, w3⟩ := DataW.trod_int Try.underlying3 (f3.trans (List.getElem?_eq_getElem (by omega)))
        obtain ⟨nn, g4, _, w4⟩ := DataW.trod_int Try.underlying3 (f4.trans (List.getElem?_eq_getElem (by omega)))
        obtain ⟨b, g5, _, w5⟩ := DataW.trod_int Try.underlying5 (f5.trans (List.getElem?_eq_getElem (by omega)))
        have h1 : DataW.trod enc Try.prog W 0 (fun _ => true) true n' 36 [c1, c2] = some xs[1] := f1.trans (List.getElem?_eq_getElem (by omega))
        have h2 : DataW.trod enc Try.prog W 0 (fun _ => true) true n' 36 [c3, c4] = some xs[2] := f2.trans (List.getElem?_eq_getElem (by omega))
        obtain ⟨s1, k1, _⟩ := spot_cells rfl h1
        obtain ⟨s2, k2, _⟩ := spot_cells rfl h2
        obtain ⟨b8, rfl⟩ := byte_of_wf18 w5
        simp at g0 g3 g4 g5 k1 k2
        obtain ⟨rfl, rfl⟩ := k1
        obtain ⟨rfl, rfl⟩ := k2
        subst g0 g3 g4 g5
        exact ⟨⟨kd, s1, s2, at', nn, b8⟩, ⟨i64_of_wf18 w3, i64_of_wf18 w4⟩, by rw [hat 0 (by omega)]; rfl, by rw [hat 1 (by omega)]; rfl, by rw [hat 2 (by omega)]; rfl, by rw [hat 3 (by omega)]; rfl, by rw [hat 4 (by omega)]; rfl, by rw [hat 5 (by omega)]; rfl, by rw [hat 6 (by omega)]; rfl, by rw [hat 7 (by omega)]; rfl⟩
    obtain ⟨b, off, spot⟩ := x
    obtain ⟨z, _, hc0, _⟩ := one 0 (by omega)
    have hs : spot = none := by simpa [Addr.add] using World.cell?_spot hc0
    subst hs
    refine .inr ⟨b, off, rfl, ?_, by omega, fun i hil => ?_⟩
    · rw [addAdd18] at hc0
      rcases Nat.lt_or_ge b W.heap.size with h' | h'
      · exact h'
      · simp [World.cell?, Array.getElem?_eq_none h'] at hc0
    · obtain ⟨z, wz, g0, g1, g2, g3, g4, g5, g6, g7⟩ := one i hil
      rw [addAdd18] at g0 g1 g2 g3 g4 g5 g6 g7
      exact ⟨z, wz, g0, g1, g2, g3, g4, g5, g6, g7⟩

end Go.Proofs.Ytmfnapbahkonhaa
