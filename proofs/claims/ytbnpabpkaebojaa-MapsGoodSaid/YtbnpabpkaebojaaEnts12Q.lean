import Derived.Test.YtbnpabpkaebojaaRows
import Derived.Test.YtbnpabpkaebojaaGooW12Q
import Derived.Deep.Slices
import Derived.ProofKit
/- A slice of entries that came in, opened. -/
set_option linter.unusedVariables false
namespace Go.Proofs.Ytbnpabpkaebojaa
open Go.RowKit Go.ChangeShapes Go.WideShapes Go.Deep

theorem addAdd12 (b off i j : Nat) : ((⟨b, off, none⟩ : Addr).add i).add j = ⟨b, off + i + j, none⟩ := by
  have h : ∀ o k, (⟨b, o, none⟩ : Addr).add k = ⟨b, o + k, none⟩ := fun o k => by unfold Addr.add; split <;> simp_all
  rw [h, h]
theorem choose_ents12 (n : Nat) (q : Nat → Int × Int → Prop) (h : ∀ i, i < n → ∃ p, q i p) : ∃ es : Ents, es.length = n ∧ ∀ i, i < n → q i (atE es i) := by
  induction n with
  | zero => exact ⟨[], rfl, fun i hi => absurd hi (Nat.not_lt_zero _)⟩
  | succ n ih =>
    obtain ⟨es, hl, hq⟩ := ih fun i hi => h i (by omega)
    obtain ⟨p, hp⟩ := h n (by omega)
    refine ⟨es ++ [p], by rw [List.length_append, hl]; rfl, fun i hi => ?_⟩
    unfold atE
    rcases Nat.lt_or_ge i n with h1 | h1
    · rw [List.getD_eq_getElem?_getD, List.getElem?_append_left (by omega), ← List.getD_eq_getElem?_getD]
      exact hq i h1
    · obtain rfl : i = n := by omega
      rw [List.getD_eq_getElem?_getD, List.getElem?_append_right (by omega), hl, Nat.sub_self]
      exact hp

set_option maxRecDepth 100000 in
theorem ents12_open {H : Type} {enc : TypeId × Value → H} {W : World} {a : Option Addr} {len cap : Nat} {d : DataW H} {p : List MemPlace}
    (h : DataW.Trod enc Try.prog W 0 (fun _ => true) true 64 (.slice a len cap) d p) : IsEnts12 W a len cap := by
  obtain ⟨fuel, hf⟩ := h
  rcases open_slice Try.underlying64 hf with ⟨hcs, _⟩ | ⟨x, l, c, m, n, D, Pl, hcs, _, hl, hm, hmm, _, hi⟩
  · simp [Value.cells] at hcs
    obtain ⟨rfl, rfl, rfl⟩ := hcs
    exact ⟨[], rfl, IsEs.nil _ _, Nat.le_refl _, Nat.zero_le _⟩
  · simp [Value.cells] at hcs
    obtain ⟨rfl, rfl, rfl⟩ := hcs
    have hm' : m = cap := by simpa using hmm
    have hC : Try.prog.cellsOf 74 = 2 := by kernel_rfl
    rw [hC] at hi
    have one : ∀ i, i < len → ∃ q : Int × Int, W.cell? ((x.add (i * 2)).add 0) = some (.int .i64 q.1) ∧ W.cell? ((x.add (i * 2)).add 1) = some (.int .i64 q.2) := by
      intro i hil
      obtain ⟨cs, hc, ht⟩ := hi i (by omega)
      obtain ⟨_, hlen, hat⟩ := World.cells?_some hc
      obtain ⟨xs, n', _, _, _, hxl, hfl⟩ := DataW.trod_struct Try.underlying74 ht
      match cs, hlen with
      | [c0, c1], _ =>
        have e3 : Try.prog.cellsOf 3 = 1 := by kernel_rfl
        have f0 : DataW.trod enc Try.prog W 0 (fun _ => true) true n' 3 (([c0, c1].drop 0).take (Try.prog.cellsOf 3)) = xs[0]? := hfl 0 _ rfl
        have f1 : DataW.trod enc Try.prog W 0 (fun _ => true) true n' 3 (([c0, c1].drop 1).take (Try.prog.cellsOf 3)) = xs[1]? := hfl 1 _ rfl
        rw [e3] at f0 f1
        have hx5 : xs.length = 2 := hxl
        obtain ⟨k, k1, _, k2⟩ := DataW.trod_int Try.underlying3 (f0.trans (List.getElem?_eq_getElem (by omega)))
        obtain ⟨q, q1, _, q2⟩ := DataW.trod_int Try.underlying3 (f1.trans (List.getElem?_eq_getElem (by omega)))
        simp at k1 q1
        subst k1 q1
        exact ⟨(k, q), by rw [hat 0 (by omega)]; rfl, by rw [hat 1 (by omega)]; rfl⟩
    obtain ⟨es, hel, hes⟩ := choose_ents12 len (fun i q => W.cell? ((x.add (i * 2)).add 0) = some (.int .i64 q.1) ∧ W.cell? ((x.add (i * 2)).add 1) = some (.int .i64 q.2)) one
    refine ⟨es, hel, ⟨by rw [hel]; omega, fun hp => ?_⟩, by omega, by omega⟩
    rw [hel] at hp
    obtain ⟨b, off, spot⟩ := x
    have hc0 := (hes 0 hp).1
    have hs : spot = none := by simpa [Addr.add] using World.cell?_spot hc0
    subst hs
    refine ⟨b, off, rfl, ?_, fun i hil => ?_⟩
    · rw [addAdd12] at hc0
      rcases Nat.lt_or_ge b W.heap.size with h' | h'
      · exact h'
      · simp [World.cell?, Array.getElem?_eq_none h'] at hc0
    · obtain ⟨g0, g1⟩ := hes i (by rw [← hel]; exact hil)
      rw [addAdd12] at g0 g1
      exact ⟨g0, g1⟩

end Go.Proofs.Ytbnpabpkaebojaa
