import Derived.Test.YtdbohcdjamhdjaaV6
/- What a row of pairs looks like. -/
set_option linter.unusedVariables false
namespace Go.Proofs.Ytdbohcdjamhdjaa
open Go.RowKit

theorem row_slice {W : World} {B n : Nat} {v : Value} {xs : List Value} (h : W.ownsRow B 82 2 v n xs) : ∃ a cap, v = .slice a n cap ∧ CapOk a n cap := by
  rcases h.2 with ⟨rfl, rfl⟩ | ⟨g1, cap1, cur, rfl, _, _, h1, h2, _⟩
  · exact ⟨none, 0, rfl, Nat.le_refl _, Nat.zero_le _, (fun _ => rfl), fun p e => by cases e⟩
  · exact ⟨_, _, rfl, h1, h2, (fun e => by cases e), fun p e => by cases e; exact ⟨g1, rfl⟩⟩

end Go.Proofs.Ytdbohcdjamhdjaa
