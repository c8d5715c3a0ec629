import Derived.Test.YtefompndoopceaaGreatDoorCsumK
/- What stood still stands. -/
set_option linter.unusedVariables false
namespace Go.Proofs.YtefompndoopceaaGreatDoor
open Go.RowKit

theorem Tab.old {w w' : World} (h : Tab w) (hk : KeptIn (· < w.heap.size) w w') : Tab w' := h.kept hk h.lt
theorem KeptIn.step {w V W : World} (h : KeptIn (· < w.heap.size) w V) (k : KeptIn (· < V.heap.size) V W) : KeptIn (· < w.heap.size) w W := h.trans (k.mono fun _ hk => Nat.lt_of_lt_of_le hk h.size)

end Go.Proofs.YtefompndoopceaaGreatDoor
