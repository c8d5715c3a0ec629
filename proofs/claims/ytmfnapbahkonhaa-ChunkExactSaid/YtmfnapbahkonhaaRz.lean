/- strings.Repeat of a zero byte. -/
import Derived.Test.YtmfnapbahkonhaaShelf
import Derived.Test.YtmfnapbahkonhaaKept
set_option linter.unusedVariables false
namespace Go.Proofs.Ytmfnapbahkonhaa
open Go.RowKit
theorem repeatLZ (c : Nat) : Lib.repeatL [(0 : UInt8)] c = List.replicate c 0 := by
  induction c with
  | zero => rfl
  | succ c ih => rw [Lib.repeatL, ih, List.replicate_succ]; rfl
theorem repeatZ' (c : Nat) (w : World) (hc : c ≤ 140737488355328) :
    Calls Try.prog 37 #[.string ⟨#[0]⟩, .int .i64 c] w fun e w' => e = .returned (.string ⟨(List.replicate c (0 : UInt8)).toArray⟩) ∧ KeptIn (· < w.heap.size) w w' := by
  refine (Try.strings_Repeat ⟨#[0]⟩ c w (by omega) (by show 1 * c ≤ _; omega)).mono ?_
  rintro e w' ⟨he, h1⟩
  exact ⟨by rw [he]; simp only [repeatLZ], .of_below h1 (fun _ h => h)⟩
end Go.Proofs.Ytmfnapbahkonhaa
