/- What an argument that came in is in memory: a slice of integers; and a size that a number picks. Of no program. -/
import Derived.WalkKit
import Derived.WalkSpells
import Derived.WalkLawsBesides
import Derived.OpenShut
import Derived.IntWalk
set_option linter.unusedVariables false
namespace Go.Proofs.Ytmfnapbahkonhaa
open Go.RowKit

@[go_sem high] theorem run_min3 {P : Program} {w : World} (ts : Array TypeId) (t : TypeId) (k k' k'' : IntKind) (x y z : Int) :
    (Builtin.min_ ts t #[.int k x, .int k' y, .int k'' z]).run P w = .ok (.int k (min (min x y) z)) w := by
  rw [run_min_int3]
  congr 2
  split <;> split <;> omega

/-- What a slice of integers that came in is: it is nil; or it leads to a row of 'cap' cells, the numbers 'zs'. -/
def IsRow (k : IntKind) (w : World) (a : Option Addr) (len cap : Nat) (zs : List Int) : Prop :=
  (a = none ∧ len = 0 ∧ cap = 0 ∧ zs = []) ∨
  ∃ x, a = some x ∧ len ≤ cap ∧ cap ≤ maxLen ∧ zs.length = cap ∧ (∀ i, i < zs.length → w.cell? (x.add i) = some (.int k (zs.getD i 0))) ∧ ∀ n ∈ zs, (Lit.int k n).wf = true

theorem IsRow.len_le {k : IntKind} {w : World} {a : Option Addr} {len cap : Nat} {zs : List Int} (h : IsRow k w a len cap zs) : len ≤ maxLen := by
  rcases h with ⟨_, rfl, _⟩ | ⟨x, _, h1, h2, _⟩
  · exact Nat.zero_le _
  · exact Nat.le_trans h1 h2

/-- An element of it: where it lies, and that it fits. -/
theorem IsRow.elem {k : IntKind} {w : World} {a : Option Addr} {len cap : Nat} {zs : List Int} (h : IsRow k w a len cap zs) (hl : 0 < len) :
    ∃ b off, a = some ⟨b, off, none⟩ ∧ b < w.heap.size ∧ ∀ i, i < len → w.cell? ⟨b, off + i, none⟩ = some (.int k (zs.getD i 0)) ∧ (Lit.int k (zs.getD i 0)).wf = true := by
  rcases h with ⟨_, rfl, _⟩ | ⟨⟨b, off, spot⟩, rfl, h1, h2, h3, h4, h5⟩
  · omega
  · have h0 := h4 0 (by omega)
    have hs : spot = none := by simpa [Addr.add] using World.cell?_spot h0
    subst hs
    have hadd : ∀ i, (⟨b, off, none⟩ : Addr).add i = ⟨b, off + i, none⟩ := fun i => by unfold Addr.add; split <;> simp_all
    refine ⟨b, off, rfl, ?_, fun i hi => ⟨hadd i ▸ h4 i (by omega), ?_⟩⟩
    · rcases Nat.lt_or_ge b w.heap.size with h' | h'
      · exact h'
      · simp [World.cell?, Addr.add, Array.getElem?_eq_none h'] at h0
    · rw [List.getD_eq_getElem?_getD, List.getElem?_eq_getElem (by omega)]
      exact h5 _ (List.getElem_mem _)

/-- The size that a number picks. -/
def szOf (k : Int) : Nat := 1 + (k % 8).toNat

theorem szOf_le (k : Int) : 1 ≤ szOf k ∧ szOf k ≤ 8 := by unfold szOf; omega

theorem szOf_walk (k : Int) : IntKind.i64.wrap (1 + IntKind.i64.wrap ((IntKind.u64.wrap k).tmod 8)) = (szOf k : Int) := by
  have e : (IntKind.u64.wrap k).tmod 8 = k % 8 := by
    rw [IntKind.wrap_u64, Int.tmod_eq_emod_of_nonneg (Int.emod_nonneg _ (by decide)), Int.emod_emod_of_dvd _ (by decide)]
  have b0 : 0 ≤ k % 8 := Int.emod_nonneg _ (by decide)
  have b1 : k % 8 < 8 := Int.emod_lt_of_pos _ (by decide)
  rw [e, IntWalk.i64_in (k % 8) (by omega), IntWalk.i64_in (1 + k % 8) (by omega), szOf]
  omega

theorem szOf_near (k : Int) : (min (max ((szOf k : Nat) : Int) 1) 8).toNat = szOf k := by
  have := szOf_le k
  omega

theorem szOf_walk64 (k : Int) : wrap64 (1 + wrap64 ((IntKind.u64.wrap k).tmod 8)) = (szOf k : Int) := by rw [← szOf_walk]; simp only [IntKind.wrap_i64, wrap64]

end Go.Proofs.Ytmfnapbahkonhaa
