/- disc's Settle. -/
import Derived.Test.YtmfnapbahkonhaaDflush
import Derived.Test.YtmfnapbahkonhaaDloose
set_option linter.unusedVariables false
namespace Go.Proofs.Ytmfnapbahkonhaa
open Go.RowKit Go.Maps

/-- The i-th bit of keep; behind its last byte the first comes again. -/
def keepBit (l : List UInt8) (i : Nat) : Bool := !l.isEmpty && (l.getD (i / 8 % l.length) 0).toNat / 2 ^ (i % 8) % 2 == 1

/-- The loose sectors, one behind the other: those whose bits are one are safe from then on. -/
def settle (keep : List UInt8) (M : Int → Option (List UInt8)) : List Int → Nat → List (List UInt8) → List (List UInt8)
  | [], _, S => S
  | k :: r, i, S => settle keep M r (i + 1) (if keepBit keep i then S.set k.toNat ((M k).getD []) else S)

theorem settle_length (keep : List UInt8) (M : Int → Option (List UInt8)) : ∀ (ks : List Int) (i : Nat) (S : List (List UInt8)), (settle keep M ks i S).length = S.length
  | [], _, _ => rfl
  | k :: r, i, S => by
    rw [settle, settle_length keep M r (i + 1)]
    split <;> simp

theorem mem_places {n : Nat} {M : Int → Option (List UInt8)} {k : Int} (h : k ∈ places n M) : 0 ≤ k ∧ k < n ∧ (M k).isSome = true := by
  simp only [places, List.mem_map, List.mem_filter, List.mem_range, Int.ofNat_eq_natCast] at h
  obtain ⟨i, ⟨h1, h2⟩, rfl⟩ := h
  exact ⟨by omega, by omega, h2⟩

end Go.Proofs.Ytmfnapbahkonhaa
