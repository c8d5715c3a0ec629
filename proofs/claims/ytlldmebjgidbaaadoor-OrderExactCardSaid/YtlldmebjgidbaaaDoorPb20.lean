/- Order: numbers, texts, whether it can be, Must. -/
import Derived.Test.YtlldmebjgidbaaaDoorPa20
import Derived.Stop.Asserts
set_option linter.unusedVariables false
namespace Go.Proofs.YtlldmebjgidbaaaDoor
open Go.RowKit

def nsOf (o : Od) : List Int := if canT o.ts = true then o.ns else []
def tsOf (o : Od) : List (List UInt8) := if canT o.ts = true then o.ts else []

theorem oParts2 (o : Od) (h : o.ok) (w : World) :
    Calls Tryd.prog 22 #[valO o] w fun e w' => ∃ v1 v2, e = .returned (.tuple #[v1, v2, .bool (canT o.ts)]) ∧ RowN v1 (nsOf o) w.heap.size w' ∧ RowT v2 (tsOf o) w.heap.size w' ∧ KeptIn (· < w.heap.size) w w' := by
  refine (oParts o h w).mono ?_
  rintro e W ⟨v1, v2, rfl, h1, h2, hK⟩
  refine ⟨v1, v2, rfl, ?_, ?_, hK⟩
  · unfold nsOf
    split
    · rename_i hc; exact (h1 hc).1
    · rename_i hc; exact .inl ⟨rfl, (h2 (by simpa using hc)).1⟩
  · unfold tsOf
    split
    · rename_i hc; exact (h1 hc).2
    · rename_i hc; exact .inl ⟨rfl, (h2 (by simpa using hc)).2⟩

theorem oNumbers (o : Od) (h : o.ok) (w : World) :
    Calls Tryd.prog 13 #[valO o] w fun e w' => ∃ v, e = .returned v ∧ RowN v (nsOf o) w.heap.size w' ∧ KeptIn (· < w.heap.size) w w' := by
  have C := oParts2 o h w
  generalize valO o = x at C ⊢
  generalize nsOf o = ns at C ⊢
  replace C := Lib.hid C
  go_enter Tryd.func13, Tryd.ntmps13
  go_wp2_with fail
  refine C.out.mono ?_
  rintro e W ⟨v1, v2, rfl, h1, h2, hK⟩
  clear C h2
  replace h1 := Lib.hid h1
  replace hK := Lib.hid hK
  go_wp2_with fail
  go_ret
  exact ⟨_, rfl, h1.out, hK.out⟩

theorem oData (o : Od) (h : o.ok) (w : World) :
    Calls Tryd.prog 14 #[valO o] w fun e w' => ∃ v, e = .returned v ∧ RowT v (tsOf o) w.heap.size w' ∧ KeptIn (· < w.heap.size) w w' := by
  have C := oParts2 o h w
  generalize valO o = x at C ⊢
  generalize tsOf o = ts at C ⊢
  replace C := Lib.hid C
  go_enter Tryd.func14, Tryd.ntmps14
  go_wp2_with fail
  refine C.out.mono ?_
  rintro e W ⟨v1, v2, rfl, h1, h2, hK⟩
  clear C h1
  replace h2 := Lib.hid h2
  replace hK := Lib.hid hK
  go_wp2_with fail
  go_ret
  exact ⟨_, rfl, h2.out, hK.out⟩

theorem oCan (o : Od) (h : o.ok) (w : World) :
    Calls Tryd.prog 32 #[valO o] w fun e w' => e = .returned (.bool (canT o.ts)) ∧ KeptIn (· < w.heap.size) w w' := by
  have C := oParts o h w
  generalize valO o = x at C ⊢
  generalize canT o.ts = b at C ⊢
  replace C := Lib.hid C
  go_enter Tryd.func32, Tryd.ntmps32
  go_wp2_with fail
  refine C.out.mono ?_
  rintro e W ⟨v1, v2, rfl, h1, h2, hK⟩
  clear C h1 h2
  replace hK := Lib.hid hK
  go_wp2_with fail
  go_ret
  exact ⟨rfl, hK.out⟩

theorem hasCreate (v : Value) (W : World) : (Instr.typeAssert (.iface 50 v) 20 24 true).run Tryd.prog W = .ok (.tuple #[.iface 50 v, .bool true]) W := run_typeAssert_hasB Tryd.underlying24 (by kernel_rfl) v _ W
theorem hasDelete (v : Value) (W : World) : (Instr.typeAssert (.iface 56 v) 20 24 true).run Tryd.prog W = .ok (.tuple #[.iface 56 v, .bool true]) W := run_typeAssert_hasB Tryd.underlying24 (by kernel_rfl) v _ W
theorem hasSnap (v : Value) (W : World) : (Instr.typeAssert (.iface 58 v) 20 24 true).run Tryd.prog W = .ok (.tuple #[.iface 58 v, .bool true]) W := run_typeAssert_hasB Tryd.underlying24 (by kernel_rfl) v _ W
theorem hasResize (v : Value) (W : World) : (Instr.typeAssert (.iface 59 v) 20 24 true).run Tryd.prog W = .ok (.tuple #[.iface 59 v, .bool true]) W := run_typeAssert_hasB Tryd.underlying24 (by kernel_rfl) v _ W
theorem hasPin (v : Value) (W : World) : (Instr.typeAssert (.iface 60 v) 20 24 true).run Tryd.prog W = .ok (.tuple #[.iface 60 v, .bool true]) W := run_typeAssert_hasB Tryd.underlying24 (by kernel_rfl) v _ W
theorem hasFree (v : Value) (W : World) : (Instr.typeAssert (.iface 61 v) 20 24 true).run Tryd.prog W = .ok (.tuple #[.iface 61 v, .bool true]) W := run_typeAssert_hasB Tryd.underlying24 (by kernel_rfl) v _ W
theorem hasRead (v : Value) (W : World) : (Instr.typeAssert (.iface 63 v) 20 24 true).run Tryd.prog W = .ok (.tuple #[.iface 63 v, .bool true]) W := run_typeAssert_hasB Tryd.underlying24 (by kernel_rfl) v _ W
theorem hasWrite (v : Value) (W : World) : (Instr.typeAssert (.iface 65 v) 20 24 true).run Tryd.prog W = .ok (.tuple #[.iface 65 v, .bool true]) W := run_typeAssert_hasB Tryd.underlying24 (by kernel_rfl) v _ W
theorem hasDiscard (v : Value) (W : World) : (Instr.typeAssert (.iface 66 v) 20 24 true).run Tryd.prog W = .ok (.tuple #[.iface 66 v, .bool true]) W := run_typeAssert_hasB Tryd.underlying24 (by kernel_rfl) v _ W
theorem hasFlush (v : Value) (W : World) : (Instr.typeAssert (.iface 68 v) 20 24 true).run Tryd.prog W = .ok (.tuple #[.iface 68 v, .bool true]) W := run_typeAssert_hasB Tryd.underlying24 (by kernel_rfl) v _ W
theorem hasTick (v : Value) (W : World) : (Instr.typeAssert (.iface 70 v) 20 24 true).run Tryd.prog W = .ok (.tuple #[.iface 70 v, .bool true]) W := run_typeAssert_hasB Tryd.underlying24 (by kernel_rfl) v _ W
theorem hasDecay (v : Value) (W : World) : (Instr.typeAssert (.iface 71 v) 20 24 true).run Tryd.prog W = .ok (.tuple #[.iface 71 v, .bool true]) W := run_typeAssert_hasB Tryd.underlying24 (by kernel_rfl) v _ W
theorem hasStatus (v : Value) (W : World) : (Instr.typeAssert (.iface 72 v) 20 24 true).run Tryd.prog W = .ok (.tuple #[.iface 72 v, .bool true]) W := run_typeAssert_hasB Tryd.underlying24 (by kernel_rfl) v _ W
theorem hasFuse (v : Value) (W : World) : (Instr.typeAssert (.iface 74 v) 20 24 true).run Tryd.prog W = .ok (.tuple #[.iface 74 v, .bool true]) W := run_typeAssert_hasB Tryd.underlying24 (by kernel_rfl) v _ W
theorem hasCrash (v : Value) (W : World) : (Instr.typeAssert (.iface 76 v) 20 24 true).run Tryd.prog W = .ok (.tuple #[.iface 76 v, .bool true]) W := run_typeAssert_hasB Tryd.underlying24 (by kernel_rfl) v _ W
theorem hasO (o : Od) (h : o.ok) : ∀ W, (Instr.typeAssert (valO o) 20 24 true).run Tryd.prog W = .ok (.tuple #[valO o, .bool true]) W :=
  Od.ways (fun o => ∀ W, (Instr.typeAssert (valO o) 20 24 true).run Tryd.prog W = .ok (.tuple #[valO o, .bool true]) W) (fun _ _ => hasCreate _) (fun _ => hasDelete _) (fun _ _ => hasSnap _) (fun _ _ => hasResize _) (fun _ => hasPin _) (fun _ => hasFree _) (fun _ _ _ => hasRead _) (fun _ _ _ => hasWrite _) (fun _ _ _ => hasDiscard _) (hasFlush _) (fun _ => hasTick _) (hasDecay _) (hasStatus _) (fun _ => hasFuse _) (fun _ _ _ => hasCrash _) o h


/-- The word of an order: which function it is (the first number: how far the model looks for a method in a program of so many types). -/
def WordP (o : Od) : Prop := ∃ f x, (∀ W : World, (method 258 (tyO o.k) (.agg (numC o.ns ++ txtC o.ts).toArray) "Word").run Tryd.prog W = .ok (f, x) W) ∧ (∀ W : World, (callFunc f #[x]).run Tryd.prog W = .ok (.enter f #[x]) W) ∧ ∀ w, Calls Tryd.prog f #[x] w fun e w' => e = .returned (.string ⟨(wordL o.k).toArray⟩) ∧ KeptIn (· < w.heap.size) w w'
theorem oWord (o : Od) (h : o.ok) : WordP o :=
  Od.ways WordP (fun a b => ⟨97, _, fun w => by kernel_rfl, fun w => by kernel_rfl, fun w => wordCreate a b w⟩) (fun a => ⟨98, _, fun w => by kernel_rfl, fun w => by kernel_rfl, fun w => wordDelete a w⟩) (fun a b => ⟨99, _, fun w => by kernel_rfl, fun w => by kernel_rfl, fun w => wordSnap a b w⟩) (fun a b => ⟨100, _, fun w => by kernel_rfl, fun w => by kernel_rfl, fun w => wordResize a b w⟩) (fun a => ⟨101, _, fun w => by kernel_rfl, fun w => by kernel_rfl, fun w => wordPin a w⟩) (fun a => ⟨102, _, fun w => by kernel_rfl, fun w => by kernel_rfl, fun w => wordFree a w⟩) (fun a b c => ⟨103, _, fun w => by kernel_rfl, fun w => by kernel_rfl, fun w => wordRead a b c w⟩) (fun a b s => ⟨104, _, fun w => by kernel_rfl, fun w => by kernel_rfl, fun w => wordWrite a b s w⟩) (fun a b c => ⟨105, _, fun w => by kernel_rfl, fun w => by kernel_rfl, fun w => wordDiscard a b c w⟩) (⟨106, _, fun w => by kernel_rfl, fun w => by kernel_rfl, fun w => wordFlush  w⟩) (fun a => ⟨107, _, fun w => by kernel_rfl, fun w => by kernel_rfl, fun w => wordTick a w⟩) (⟨108, _, fun w => by kernel_rfl, fun w => by kernel_rfl, fun w => wordDecay  w⟩) (⟨109, _, fun w => by kernel_rfl, fun w => by kernel_rfl, fun w => wordStatus  w⟩) (fun a => ⟨110, _, fun w => by kernel_rfl, fun w => by kernel_rfl, fun w => wordFuse a w⟩) (fun s t u => ⟨111, _, fun w => by kernel_rfl, fun w => by kernel_rfl, fun w => wordCrash s t u w⟩) o h

end Go.Proofs.YtlldmebjgidbaaaDoor
