import Derived.Test.YtlnlgapjlekehaaRows
import Derived.Test.YtlnlgapjlekehaaVlK
import Derived.Test.YtlnlgapjlekehaaVols11K
import Derived.Deep.Slices
import Derived.ProofKit
/- A slice of volumes that came in, opened. -/
set_option linter.unusedVariables false
namespace Go.Proofs.Ytlnlgapjlekehaa
open Go.RowKit Go.ChangeShapes Go.WideShapes Go.Deep

theorem addAddV11 (b off i j : Nat) : ((⟨b, off, none⟩ : Addr).add i).add j = ⟨b, off + i + j, none⟩ := by
  have h : ∀ o k, (⟨b, o, none⟩ : Addr).add k = ⟨b, o + k, none⟩ := fun o k => by unfold Addr.add; split <;> simp_all
  rw [h, h]
theorem choose_vols11 (n : Nat) (q : Nat → Vol → Prop) (h : ∀ i, i < n → ∃ p, q i p) : ∃ vs : List Vol, vs.length = n ∧ ∀ i (hi : i < vs.length), q i vs[i] := by
  induction n with
  | zero => exact ⟨[], rfl, fun i hi => absurd hi (Nat.not_lt_zero _)⟩
  | succ n ih =>
    obtain ⟨vs, hl, hq⟩ := ih fun i hi => h i (by omega)
    obtain ⟨p, hp⟩ := h n (by omega)
    refine ⟨vs ++ [p], by rw [List.length_append, hl]; rfl, fun i hi => ?_⟩
    rw [List.length_append, List.length_singleton] at hi
    rcases Nat.lt_or_ge i vs.length with h1 | h1
    · rw [List.getElem_append_left h1]
      exact hq i h1
    · obtain rfl : i = vs.length := by omega
      rw [List.getElem_append_right (Nat.le_refl _)]
      simp only [Nat.sub_self, List.getElem_cons_zero]
      rw [hl]
      exact hp

set_option maxRecDepth 100000 in
theorem vols_open {H : Type} {enc : TypeId × Value → H} {W : World} {a : Option Addr} {len cap : Nat} {d : DataW H} {p : List MemPlace}
    (h : DataW.Trod enc Try.prog W 0 (fun _ => true) true 73 (.slice a len cap) d p) : ∃ vs : List Vol, vs.length = len ∧ IsVs W a vs := by
  obtain ⟨fuel, hf⟩ := h
  rcases open_slice Try.underlying73 hf with ⟨hcs, _⟩ | ⟨x, l, c, m, n, D, Pl, hcs, _, hl, hm, hmm, _, hi⟩
  · simp [Value.cells] at hcs
    obtain ⟨rfl, rfl, rfl⟩ := hcs
    exact ⟨[], rfl, Nat.zero_le _, fun h => absurd h (Nat.lt_irrefl 0)⟩
  · simp [Value.cells] at hcs
    obtain ⟨rfl, rfl, rfl⟩ := hcs
    have hm' : m = cap := by simpa using hmm
    have hC : Try.prog.cellsOf 60 = 5 := by kernel_rfl
    rw [hC] at hi
    have one : ∀ i, i < len → ∃ v : Vol, W.cell? ((x.add (i * 5)).add 0) = some (.int .i64 v.id) ∧ W.cell? ((x.add (i * 5)).add 1) = some (.int .i64 v.size) ∧ W.cell? ((x.add (i * 5)).add 2) = some (.int .i64 v.root) ∧ W.cell? ((x.add (i * 5)).add 3) = some (.bool v.pin) ∧ W.cell? ((x.add (i * 5)).add 4) = some (.int .i64 v.frm) := by
      intro i hil
      obtain ⟨cs, hc, ht⟩ := hi i (by omega)
      obtain ⟨_, hlen, hat⟩ := World.cells?_some hc
      obtain ⟨id, size, root, pin, frm, e⟩ := vol_cells (cs := cs) hlen ht
      subst e
      exact ⟨⟨id, size, root, pin, frm⟩, by rw [hat 0 (by omega)]; rfl, by rw [hat 1 (by omega)]; rfl, by rw [hat 2 (by omega)]; rfl, by rw [hat 3 (by omega)]; rfl, by rw [hat 4 (by omega)]; rfl⟩
    obtain ⟨vs, hlv, hq⟩ := choose_vols11 len _ one
    refine ⟨vs, hlv, by omega, fun hp => ?_⟩
    obtain ⟨b, off, spot⟩ := x
    have hc0 := (hq 0 hp).1
    have hs : spot = none := by simpa [Addr.add] using World.cell?_spot hc0
    subst hs
    refine ⟨b, off, rfl, ?_, fun i hi' => ?_⟩
    · rw [addAddV11] at hc0
      rcases Nat.lt_or_ge b W.heap.size with h' | h'
      · exact h'
      · simp [World.cell?, Array.getElem?_eq_none h'] at hc0
    · have := hq i hi'
      simp only [addAddV11] at this
      exact this

end Go.Proofs.Ytlnlgapjlekehaa
