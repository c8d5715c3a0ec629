import Derived.Test.YtkgjmejgkffbdaaGreatDoorRef7dK
import Derived.Deep.RegionLaw
import Derived.Deep.RegionHeld3
/- The reference of layer 7 (tierceref07): Next: what it answers. -/
set_option linter.unusedVariables false
namespace Go.Proofs.YtkgjmejgkffbdaaGreatDoor
open Go.RowKit

/-- A page that may be committed. -/
def used7 (n : Nat) (K F : Nat → Bool) (x : Int) : Bool := decide (1 ≤ x) && decide (x < (n : Int)) && (F x.toNat || K x.toNat)
/-- Whether a commit may be. -/
def may7 (h : Hd) (n : Nat) (K F : Nat → Bool) (root : Int) (l : List Int) : Bool := goodH (nextH h root) && l.all (used7 n K F) && decide (root = 0 ∨ root ∈ l)

/-- What stands in the loop of Next. -/
structure Nx7 (w : World) (B : Nat) (h : Hd) (V : World) : Prop where
  kept : KeptIn (· < B) w V
  r : BoxH B noH V
  b : BoxH (B + 1) h V
theorem Nx7.drewN {w V : World} {B : Nat} {h : Hd} (k : Nx7 w B h V) (m : Nat) : Nx7 w B h (V.drewN m) := ⟨k.kept.drewN m, k.r, k.b⟩

end Go.Proofs.YtkgjmejgkffbdaaGreatDoor
