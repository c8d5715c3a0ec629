/- A slice of layer 4's deeds that came in, opened to its elements' cells. -/
import Derived.Test.YtbgkfeikfkbfmaaRows
import Derived.Test.YtbgkfeikfkbfmaaDexW
import Derived.Deep.Slices
import Derived.ProofKit
set_option linter.unusedVariables false
namespace Go.Proofs.Ytbgkfeikfkbfmaa
open Go.RowKit Go.ChangeShapes Go.WideShapes Go.Deep

theorem addAdd4 (b off i j : Nat) : ((⟨b, off, none⟩ : Addr).add i).add j = ⟨b, off + i + j, none⟩ := by
  have h : ∀ o k, (⟨b, o, none⟩ : Addr).add k = ⟨b, o + k, none⟩ := fun o k => by unfold Addr.add; split <;> simp_all
  rw [h, h]

theorem u8_of_wf {x : Int} (h : (Lit.int .u8 x).wf = true) : ∃ z : UInt8, x = (z.toNat : Int) := by
  have hb : 0 ≤ x ∧ x ≤ 255 := by
    simp [Lit.wf, IntKind.min, IntKind.max, IntKind.signed, IntKind.bits] at h
    omega
  refine ⟨UInt8.ofNat x.toNat, ?_⟩
  rw [UInt8.toNat_ofNat']
  omega

theorem i64_of_wf4 {x : Int} (h : (Lit.int .i64 x).wf = true) : I64 x := by
  simp [Lit.wf, IntKind.min, IntKind.max, IntKind.signed, IntKind.bits] at h
  omega

set_option maxRecDepth 100000 in
theorem acts4_open {H : Type} {enc : TypeId × Value → H} {W : World} {a : Option Addr} {len cap : Nat} {d : DataW H} {p : List MemPlace}
    (h : DataW.Trod enc Try.prog W 0 (fun _ => true) true 22 (.slice a len cap) d p) : IsActs4 W a len := by
  obtain ⟨fuel, hf⟩ := h
  rcases open_slice Try.underlying22 hf with ⟨hcs, _⟩ | ⟨x, l, c, m, n, D, Pl, hcs, _, hl, hm, hmm, _, hi⟩
  · simp [Value.cells] at hcs
    exact .inl hcs.2.1
  · simp [Value.cells] at hcs
    obtain ⟨rfl, rfl, rfl⟩ := hcs
    by_cases h0 : len = 0
    · exact .inl h0
    have hm' : m = cap := by simpa using hmm
    have hC : Try.prog.cellsOf 31 = 5 := by kernel_rfl
    rw [hC] at hi
    -- each element
    have one : ∀ i, i < len → ∃ (k q y : Int) (z : UInt8) (t : List UInt8), I64 q ∧ I64 y ∧ t.length ≤ maxLen ∧
        W.cell? ((x.add (i * 5)).add 0) = some (.int .i64 k) ∧ W.cell? ((x.add (i * 5)).add 1) = some (.int .i64 q) ∧ W.cell? ((x.add (i * 5)).add 2) = some (.int .i64 y) ∧ W.cell? ((x.add (i * 5)).add 3) = some (.int .u8 (z.toNat : Int)) ∧ W.cell? ((x.add (i * 5)).add 4) = some (.string ⟨t.toArray⟩) := by
      intro i hil
      obtain ⟨cs, hc, ht⟩ := hi i (by omega)
      obtain ⟨_, hlen, hat⟩ := World.cells?_some hc
      obtain ⟨xs, n', _, _, _, hxl, hfl⟩ := DataW.trod_struct Try.underlying31 ht
      match cs, hlen with
      | [c0, c1, c2, c3, c4], _ =>
        have e3 : Try.prog.cellsOf 3 = 1 := by kernel_rfl
        have e5 : Try.prog.cellsOf 5 = 1 := by kernel_rfl
        have e9 : Try.prog.cellsOf 9 = 1 := by kernel_rfl
        have f0 : DataW.trod enc Try.prog W 0 (fun _ => true) true n' 3 (([c0, c1, c2, c3, c4].drop 0).take (Try.prog.cellsOf 3)) = xs[0]? := hfl 0 _ rfl
        have f1 : DataW.trod enc Try.prog W 0 (fun _ => true) true n' 3 (([c0, c1, c2, c3, c4].drop 1).take (Try.prog.cellsOf 3)) = xs[1]? := hfl 1 _ rfl
        have f2 : DataW.trod enc Try.prog W 0 (fun _ => true) true n' 3 (([c0, c1, c2, c3, c4].drop 2).take (Try.prog.cellsOf 3)) = xs[2]? := hfl 2 _ rfl
        have f3 : DataW.trod enc Try.prog W 0 (fun _ => true) true n' 5 (([c0, c1, c2, c3, c4].drop 3).take (Try.prog.cellsOf 5)) = xs[3]? := hfl 3 _ rfl
        have f4 : DataW.trod enc Try.prog W 0 (fun _ => true) true n' 9 (([c0, c1, c2, c3, c4].drop 4).take (Try.prog.cellsOf 9)) = xs[4]? := hfl 4 _ rfl
        rw [e3] at f0 f1 f2
        rw [e5] at f3
        rw [e9] at f4
        have hx5 : xs.length = 5 := hxl
        obtain ⟨k, k1, _, k2⟩ := DataW.trod_int Try.underlying3 (f0.trans (List.getElem?_eq_getElem (by omega)))
        obtain ⟨q, q1, _, q2⟩ := DataW.trod_int Try.underlying3 (f1.trans (List.getElem?_eq_getElem (by omega)))
        obtain ⟨y, y1, _, y2⟩ := DataW.trod_int Try.underlying3 (f2.trans (List.getElem?_eq_getElem (by omega)))
        obtain ⟨zb, z1, _, z2⟩ := DataW.trod_int Try.underlying5 (f3.trans (List.getElem?_eq_getElem (by omega)))
        obtain ⟨s, s1, _, s2⟩ := DataW.trod_string Try.underlying9 (f4.trans (List.getElem?_eq_getElem (by omega)))
        simp at k1 q1 y1 z1 s1
        subst k1 q1 y1 z1 s1
        obtain ⟨z, rfl⟩ := u8_of_wf z2
        have hs : s = ⟨s.data.toList.toArray⟩ := (Lib.mk_data s).symm
        refine ⟨k, q, y, z, s.data.toList, i64_of_wf4 q2, i64_of_wf4 y2, ?_, by rw [hat 0 (by omega)]; rfl, by rw [hat 1 (by omega)]; rfl, by rw [hat 2 (by omega)]; rfl, by rw [hat 3 (by omega)]; rfl, by rw [hat 4 (by omega), ← hs]; rfl⟩
        have : s.data.toList.length = s.size := by rw [Array.length_toList]; rfl
        rw [this]
        exact s2
    obtain ⟨b, off, spot⟩ := x
    obtain ⟨k, q, y, z, t, _, _, _, hc0, _⟩ := one 0 (by omega)
    have hs : spot = none := by simpa [Addr.add] using World.cell?_spot hc0
    subst hs
    refine .inr ⟨b, off, rfl, ?_, by omega, fun i hil => ?_⟩
    · rw [addAdd4] at hc0
      rcases Nat.lt_or_ge b W.heap.size with h' | h'
      · exact h'
      · simp [World.cell?, Array.getElem?_eq_none h'] at hc0
    · obtain ⟨k, q, y, z, t, w1, w2, w3, g0, g1, g2, g3, g4⟩ := one i hil
      rw [addAdd4] at g0 g1 g2 g3 g4
      exact ⟨k, q, y, z, t, w1, w2, w3, g0, g1, g2, g3, g4⟩

end Go.Proofs.Ytbgkfeikfkbfmaa
