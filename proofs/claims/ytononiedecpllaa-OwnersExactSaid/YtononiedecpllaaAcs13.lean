/- A slice of layer 13's deeds that came in, an owner that came in: opened. -/
import Derived.Test.YtononiedecpllaaRows
import Derived.Test.YtononiedecpllaaWz13
import Derived.Deep.Slices
import Derived.ProofKit
set_option linter.unusedVariables false
namespace Go.Proofs.Ytononiedecpllaa
open Go.RowKit Go.ChangeShapes Go.WideShapes Go.Deep

theorem addAdd13 (b off i j : Nat) : ((⟨b, off, none⟩ : Addr).add i).add j = ⟨b, off + i + j, none⟩ := by
  have h : ∀ o k, (⟨b, o, none⟩ : Addr).add k = ⟨b, o + k, none⟩ := fun o k => by unfold Addr.add; split <;> simp_all
  rw [h, h]

set_option maxRecDepth 100000 in
theorem own_cells {H : Type} {enc : TypeId × Value → H} {W : World} {cs : List Value} {d : DataW H} {p : List MemPlace} {n : Nat} (hl : cs.length = 3)
    (h : DataW.trod enc Try.prog W 0 (fun _ => true) true n 31 cs = some (d, p)) : ∃ (v b a : Int), cs = [.int .i64 v, .int .i64 b, .int .i64 a] := by
  obtain ⟨xs, n', _, _, _, hxl, hfl⟩ := DataW.trod_struct Try.underlying31 h
  match cs, hl with
  | [c0, c1, c2], _ =>
    have e3 : Try.prog.cellsOf 3 = 1 := by kernel_rfl
    have f0 : DataW.trod enc Try.prog W 0 (fun _ => true) true n' 3 (([c0, c1, c2].drop 0).take (Try.prog.cellsOf 3)) = xs[0]? := hfl 0 _ rfl
    have f1 : DataW.trod enc Try.prog W 0 (fun _ => true) true n' 3 (([c0, c1, c2].drop 1).take (Try.prog.cellsOf 3)) = xs[1]? := hfl 1 _ rfl
    have f2 : DataW.trod enc Try.prog W 0 (fun _ => true) true n' 3 (([c0, c1, c2].drop 2).take (Try.prog.cellsOf 3)) = xs[2]? := hfl 2 _ rfl
    rw [e3] at f0 f1 f2
    have hx5 : xs.length = 3 := hxl
    obtain ⟨k0, g0, _, _⟩ := DataW.trod_int Try.underlying3 (f0.trans (List.getElem?_eq_getElem (by omega)))
    obtain ⟨k1, g1, _, _⟩ := DataW.trod_int Try.underlying3 (f1.trans (List.getElem?_eq_getElem (by omega)))
    obtain ⟨k2, g2, _, _⟩ := DataW.trod_int Try.underlying3 (f2.trans (List.getElem?_eq_getElem (by omega)))
    simp at g0 g1 g2
    subst g0 g1 g2
    exact ⟨k0, k1, k2, rfl⟩

theorem own_open {H : Type} {enc : TypeId × Value → H} {W : World} {v : Value} {d : DataW H} {p : List MemPlace} (hv : ∃ cs, v = .agg cs ∧ cs.size = Try.prog.cellsOf 31)
    (h : DataW.Trod enc Try.prog W 0 (fun _ => true) true 31 v d p) : ∃ o : Ow, v = ownV o ∧ True := by
  obtain ⟨cs, rfl, hs⟩ := hv
  obtain ⟨fuel, hf⟩ := h
  have hC : Try.prog.cellsOf 31 = 3 := by kernel_rfl
  rw [hC] at hs
  obtain ⟨l⟩ := cs
  obtain ⟨x, y, z, e⟩ := own_cells (cs := l) hs hf
  exact ⟨⟨x, y, z⟩, by rw [e]; rfl, trivial⟩

set_option maxRecDepth 100000 in
theorem acts13_open {H : Type} {enc : TypeId × Value → H} {W : World} {a : Option Addr} {len cap : Nat} {d : DataW H} {p : List MemPlace}
    (h : DataW.Trod enc Try.prog W 0 (fun _ => true) true 22 (.slice a len cap) d p) : IsActs13 W a len := by
  obtain ⟨fuel, hf⟩ := h
  rcases open_slice Try.underlying22 hf with ⟨hcs, _⟩ | ⟨x, l, c, m, n, D, Pl, hcs, _, hl, hm, hmm, _, hi⟩
  · simp [Value.cells] at hcs
    exact .inl hcs.2.1
  · simp [Value.cells] at hcs
    obtain ⟨rfl, rfl, rfl⟩ := hcs
    by_cases h0 : len = 0
    · exact .inl h0
    have hm' : m = cap := by simpa using hmm
    have hC : Try.prog.cellsOf 33 = 5 := by kernel_rfl
    rw [hC] at hi
    have one : ∀ i, i < len → ∃ (k c : Int) (o : Ow), (Lit.int .i64 k).wf = true ∧ (Lit.int .i64 c).wf = true ∧ W.cell? ((x.add (i * 5)).add 0) = some (.int .i64 k) ∧ W.cell? ((x.add (i * 5)).add 1) = some (.int .i64 c) ∧ W.cell? ((x.add (i * 5)).add 2) = some (.int .i64 o.vol) ∧ W.cell? ((x.add (i * 5)).add 3) = some (.int .i64 o.bir) ∧ W.cell? ((x.add (i * 5)).add 4) = some (.int .i64 o.pos) := by
      intro i hil
      obtain ⟨cs, hc, ht⟩ := hi i (by omega)
      obtain ⟨_, hlen, hat⟩ := World.cells?_some hc
      obtain ⟨xs, n', _, _, _, hxl, hfl⟩ := DataW.trod_struct Try.underlying33 ht
      match cs, hlen with
      | [c0, c1, c2, c3, c4], _ =>
        have e3 : Try.prog.cellsOf 3 = 1 := by kernel_rfl
        have e4 : Try.prog.cellsOf 31 = 3 := by kernel_rfl
        have f0 : DataW.trod enc Try.prog W 0 (fun _ => true) true n' 3 (([c0, c1, c2, c3, c4].drop 0).take (Try.prog.cellsOf 3)) = xs[0]? := hfl 0 _ rfl
        have f1 : DataW.trod enc Try.prog W 0 (fun _ => true) true n' 3 (([c0, c1, c2, c3, c4].drop 1).take (Try.prog.cellsOf 3)) = xs[1]? := hfl 1 _ rfl
        have f2 : DataW.trod enc Try.prog W 0 (fun _ => true) true n' 31 (([c0, c1, c2, c3, c4].drop 2).take (Try.prog.cellsOf 31)) = xs[2]? := hfl 2 _ rfl
        rw [e3] at f0 f1
        rw [e4] at f2
        have hx5 : xs.length = 3 := hxl
        obtain ⟨kd, k1, _, k2⟩ := DataW.trod_int Try.underlying3 (f0.trans (List.getElem?_eq_getElem (by omega)))
        obtain ⟨ch, q1, _, q2⟩ := DataW.trod_int Try.underlying3 (f1.trans (List.getElem?_eq_getElem (by omega)))
        obtain ⟨ov, ob, oa, ev⟩ := own_cells (cs := [c2, c3, c4]) rfl (f2.trans (List.getElem?_eq_getElem (by omega)))
        simp at k1 q1 ev
        obtain ⟨rfl, rfl, rfl⟩ := ev
        subst k1 q1
        exact ⟨kd, ch, ⟨ov, ob, oa⟩, k2, q2, by rw [hat 0 (by omega)]; rfl, by rw [hat 1 (by omega)]; rfl, by rw [hat 2 (by omega)]; rfl, by rw [hat 3 (by omega)]; rfl, by rw [hat 4 (by omega)]; rfl⟩
    obtain ⟨b, off, spot⟩ := x
    obtain ⟨_, _, _, _, _, hc0, _⟩ := one 0 (by omega)
    have hs : spot = none := by simpa [Addr.add] using World.cell?_spot hc0
    subst hs
    refine .inr ⟨b, off, rfl, ?_, by omega, fun i hil => ?_⟩
    · rw [addAdd13] at hc0
      rcases Nat.lt_or_ge b W.heap.size with h' | h'
      · exact h'
      · simp [World.cell?, Array.getElem?_eq_none h'] at hc0
    · have := one i hil
      simp only [addAdd13] at this
      exact this

end Go.Proofs.Ytononiedecpllaa
