import Derived.Test.YtlnlgapjlekehaaRows
import Derived.Test.YtlnlgapjlekehaaMi8K
import Derived.Deep.Slices
import Derived.ProofKit
/- A slice of TreeMap's deeds that came in, opened to its elements' cells. -/
set_option linter.unusedVariables false
namespace Go.Proofs.Ytlnlgapjlekehaa
open Go.RowKit Go.ChangeShapes Go.WideShapes Go.Deep

theorem addAddA8 (b off i j : Nat) : ((⟨b, off, none⟩ : Addr).add i).add j = ⟨b, off + i + j, none⟩ := by
  have h : ∀ o k, (⟨b, o, none⟩ : Addr).add k = ⟨b, o + k, none⟩ := fun o k => by unfold Addr.add; split <;> simp_all
  rw [h, h]
theorem u64_of_wfA8 {x : Int} (h : (Lit.int .u64 x).wf = true) : ∃ n : Nat, x = (n : Int) ∧ n < 18446744073709551616 := by
  have hb := bounds_u64 h
  obtain ⟨n, rfl⟩ := Int.eq_ofNat_of_zero_le hb.1
  exact ⟨n, rfl, by omega⟩

set_option maxRecDepth 100000 in
theorem acts8_open {H : Type} {enc : TypeId × Value → H} {W : World} {a : Option Addr} {len cap : Nat} {d : DataW H} {p : List MemPlace}
    (h : DataW.Trod enc Try.prog W 0 (fun _ => true) true 22 (.slice a len cap) d p) : IsActs8 W a len := by
  obtain ⟨fuel, hf⟩ := h
  rcases open_slice Try.underlying22 hf with ⟨hcs, _⟩ | ⟨x, l, c, m, n, D, Pl, hcs, _, hl, hm, hmm, _, hi⟩
  · simp [Value.cells] at hcs
    exact .inl hcs.2.1
  · simp [Value.cells] at hcs
    obtain ⟨rfl, rfl, rfl⟩ := hcs
    by_cases h0 : len = 0
    · exact .inl h0
    have hm' : m = cap := by simpa using hmm
    have hC : Try.prog.cellsOf 32 = 3 := by kernel_rfl
    rw [hC] at hi
    have one : ∀ i, i < len → ∃ (kd : Int) (k q : Nat), (Lit.int .i64 kd).wf = true ∧ k < 18446744073709551616 ∧ q < 18446744073709551616 ∧ W.cell? ((x.add (i * 3)).add 0) = some (.int .i64 kd) ∧ W.cell? ((x.add (i * 3)).add 1) = some (.int .u64 (k : Int)) ∧ W.cell? ((x.add (i * 3)).add 2) = some (.int .u64 (q : Int)) := by
      intro i hil
      obtain ⟨cs, hc, ht⟩ := hi i (by omega)
      obtain ⟨_, hlen, hat⟩ := World.cells?_some hc
      obtain ⟨xs, n', _, _, _, hxl, hfl⟩ := DataW.trod_struct Try.underlying32 ht
      match cs, hlen with
      | [c0, c1, c2], _ =>
        have e3 : Try.prog.cellsOf 3 = 1 := by kernel_rfl
        have e4 : Try.prog.cellsOf 30 = 1 := by kernel_rfl
        have f0 : DataW.trod enc Try.prog W 0 (fun _ => true) true n' 3 (([c0, c1, c2].drop 0).take (Try.prog.cellsOf 3)) = xs[0]? := hfl 0 _ rfl
        have f1 : DataW.trod enc Try.prog W 0 (fun _ => true) true n' 30 (([c0, c1, c2].drop 1).take (Try.prog.cellsOf 30)) = xs[1]? := hfl 1 _ rfl
        have f2 : DataW.trod enc Try.prog W 0 (fun _ => true) true n' 30 (([c0, c1, c2].drop 2).take (Try.prog.cellsOf 30)) = xs[2]? := hfl 2 _ rfl
        rw [e3] at f0
        rw [e4] at f1 f2
        have hx5 : xs.length = 3 := hxl
        obtain ⟨kd, k1, _, k2⟩ := DataW.trod_int Try.underlying3 (f0.trans (List.getElem?_eq_getElem (by omega)))
        obtain ⟨u, u1, _, u2⟩ := DataW.trod_int Try.underlying30 (f1.trans (List.getElem?_eq_getElem (by omega)))
        obtain ⟨r, r1, _, r2⟩ := DataW.trod_int Try.underlying30 (f2.trans (List.getElem?_eq_getElem (by omega)))
        simp at k1 u1 r1
        subst k1 u1 r1
        obtain ⟨u, rfl, hu⟩ := u64_of_wfA8 u2
        obtain ⟨r, rfl, hr⟩ := u64_of_wfA8 r2
        exact ⟨kd, u, r, k2, hu, hr, by rw [hat 0 (by omega)]; rfl, by rw [hat 1 (by omega)]; rfl, by rw [hat 2 (by omega)]; rfl⟩
    obtain ⟨b, off, spot⟩ := x
    obtain ⟨_, _, _, _, _, _, hc0, _⟩ := one 0 (by omega)
    have hs : spot = none := by simpa [Addr.add] using World.cell?_spot hc0
    subst hs
    refine .inr ⟨b, off, rfl, ?_, by omega, fun i hil => ?_⟩
    · rw [addAddA8] at hc0
      rcases Nat.lt_or_ge b W.heap.size with h' | h'
      · exact h'
      · simp [World.cell?, Array.getElem?_eq_none h'] at hc0
    · have := one i hil
      simp only [addAddA8] at this
      exact this

end Go.Proofs.Ytlnlgapjlekehaa
