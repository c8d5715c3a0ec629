import Derived.Test.YtkgjmejgkffbdaaGreatDoorRef7n1K
import Derived.Test.YtkgjmejgkffbdaaGreatDoorRef7n2K
import Derived.Test.YtkgjmejgkffbdaaGreatDoorRef7n3K
/- The reference of layer 7 (tierceref07): Next. -/
set_option linter.unusedVariables false
namespace Go.Proofs.YtkgjmejgkffbdaaGreatDoor
open Go.RowKit

theorem r7Next {A : Ad} {R : R7} {n : Nat} {K F : Nat → Bool} {L : Nat → Option Nat} {h : Hd} {w : World} (k : IsR7 R n K F L h w) (hn : n ≤ 512) (hg : h.gen ≤ 1000) (root : Int) (b : Option Addr) (cap : Nat) (l : List Int) (hi : IntsIn A w b l) :
    Calls Tryz.prog 16 #[.pointer (some ⟨R.u, 0, none⟩), .int .i64 root, .slice b l.length cap] w fun e w' => e = .returned (.tuple #[headV (nextH h root), .bool (may7 h n K F root l)]) ∧ KeptIn (· < w.heap.size) w w' := by
  cases hgood : goodH (nextH h root) with
  | false => exact r7Next1 k hn hg root b cap l hi hgood
  | true =>
    by_cases hr : root = 0
    · exact r7Next2 k hn hg root b cap l hi ⟨hgood, hr⟩
    · exact r7Next3 k hn hg root b cap l hi ⟨hgood, hr⟩

end Go.Proofs.YtkgjmejgkffbdaaGreatDoor
