/- A slice of bools that came in, opened to its elements' cells. -/
import Derived.Test.YtaaohockmpmaoaaRows
import Derived.Test.YtaaohockmpmaoaaNums
import Derived.Deep.Slices
import Derived.ProofKit
set_option linter.unusedVariables false
namespace Go.Proofs.Ytaaohockmpmaoaa
open Go.RowKit Go.ChangeShapes Go.WideShapes Go.Deep

/-- What a slice of bools that came in is: it has no element; or it leads to its elements' cells. -/
def IsBools (w : World) (a : Option Addr) (len : Nat) : Prop :=
  len = 0 ∨ ∃ b off, a = some ⟨b, off, none⟩ ∧ b < w.heap.size ∧ len ≤ maxLen ∧ ∀ i, i < len → ∃ x : Bool, w.cell? ⟨b, off + i, none⟩ = some (.bool x)

theorem IsBools.len_le {w : World} {a : Option Addr} {len : Nat} (h : IsBools w a len) : len ≤ maxLen := by
  rcases h with rfl | ⟨_, _, _, _, h, _⟩
  · exact Nat.zero_le _
  · exact h

theorem bools_open {H : Type} {enc : TypeId × Value → H} {W : World} {a : Option Addr} {len cap : Nat} {d : DataW H} {p : List MemPlace}
    (h : DataW.Trod enc Try.prog W 0 (fun _ => true) true 35 (.slice a len cap) d p) : IsBools W a len := by
  obtain ⟨fuel, hf⟩ := h
  rcases open_slice Try.underlying35 hf with ⟨hcs, _⟩ | ⟨x, l, c, m, n, D, Pl, hcs, _, hl, hm, hmm, _, hi⟩
  · simp [Value.cells] at hcs
    exact .inl hcs.2.1
  · simp [Value.cells] at hcs
    obtain ⟨rfl, rfl, rfl⟩ := hcs
    by_cases h0 : len = 0
    · exact .inl h0
    have hm' : m = cap := by simpa using hmm
    have hC : Try.prog.cellsOf 4 = 1 := by kernel_rfl
    rw [hC] at hi
    have one : ∀ i, i < len → ∃ x' : Bool, W.cell? ((x.add (i * 1)).add 0) = some (.bool x') := by
      intro i hil
      obtain ⟨cs, hc, ht⟩ := hi i (by omega)
      obtain ⟨_, hlen, hat⟩ := World.cells?_some hc
      obtain ⟨k, k1, _⟩ := DataW.trod_bool Try.underlying4 ht
      subst k1
      exact ⟨k, by rw [hat 0 (by omega)]; rfl⟩
    obtain ⟨b, off, spot⟩ := x
    obtain ⟨k, hc0⟩ := one 0 (by omega)
    have hs : spot = none := by simpa [Addr.add] using World.cell?_spot hc0
    subst hs
    have hadd : ∀ o k, (⟨b, o, none⟩ : Addr).add k = ⟨b, o + k, none⟩ := fun o k => by unfold Addr.add; split <;> simp_all
    refine .inr ⟨b, off, rfl, ?_, by omega, fun i hil => ?_⟩
    · rw [hadd, hadd] at hc0
      rcases Nat.lt_or_ge b W.heap.size with h' | h'
      · exact h'
      · simp [World.cell?, Array.getElem?_eq_none h'] at hc0
    · obtain ⟨k, g0⟩ := one i hil
      rw [hadd, hadd, Nat.mul_one, Nat.add_zero] at g0
      exact ⟨k, g0⟩

end Go.Proofs.Ytaaohockmpmaoaa
