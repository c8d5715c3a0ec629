/- Order: numbers, texts, whether it can be, Must. -/
import Derived.Test.YtipalcllmbmhfaaDoorPa20
import Derived.Stop.Asserts
set_option linter.unusedVariables false
namespace Go.Proofs.YtipalcllmbmhfaaDoor
open Go.RowKit

def nsOf (o : Od) : List Int := if canT o.ts = true then o.ns else []
def tsOf (o : Od) : List (List UInt8) := if canT o.ts = true then o.ts else []

theorem oParts2 (o : Od) (h : o.ok) (w : World) :
    Calls Tryd.prog 28 #[valO o] w fun e w' => ∃ v1 v2, e = .returned (.tuple #[v1, v2, .bool (canT o.ts)]) ∧ RowN v1 (nsOf o) w.heap.size w' ∧ RowT v2 (tsOf o) w.heap.size w' ∧ KeptIn (· < w.heap.size) w w' := by
  refine (oParts o h w).mono ?_
  rintro e W ⟨v1, v2, rfl, h1, h2, hK⟩
  refine ⟨v1, v2, rfl, ?_, ?_, hK⟩
  · unfold nsOf
    split
    · rename_i hc; exact (h1 hc).1
    · rename_i hc; exact .inl ⟨rfl, (h2 (by simpa using hc)).1⟩
  · unfold tsOf
    split
    · rename_i hc; exact (h1 hc).2
    · rename_i hc; exact .inl ⟨rfl, (h2 (by simpa using hc)).2⟩

theorem oNumbers (o : Od) (h : o.ok) (w : World) :
    Calls Tryd.prog 16 #[valO o] w fun e w' => ∃ v, e = .returned v ∧ RowN v (nsOf o) w.heap.size w' ∧ KeptIn (· < w.heap.size) w w' := by
  have C := oParts2 o h w
  generalize valO o = x at C ⊢
  generalize nsOf o = ns at C ⊢
  replace C := Lib.hid C
  go_enter Tryd.func16, Tryd.ntmps16
  go_wp2_with fail
  refine C.out.mono ?_
  rintro e W ⟨v1, v2, rfl, h1, h2, hK⟩
  clear C h2
  replace h1 := Lib.hid h1
  replace hK := Lib.hid hK
  go_wp2_with fail
  go_ret
  exact ⟨_, rfl, h1.out, hK.out⟩

theorem oData (o : Od) (h : o.ok) (w : World) :
    Calls Tryd.prog 17 #[valO o] w fun e w' => ∃ v, e = .returned v ∧ RowT v (tsOf o) w.heap.size w' ∧ KeptIn (· < w.heap.size) w w' := by
  have C := oParts2 o h w
  generalize valO o = x at C ⊢
  generalize tsOf o = ts at C ⊢
  replace C := Lib.hid C
  go_enter Tryd.func17, Tryd.ntmps17
  go_wp2_with fail
  refine C.out.mono ?_
  rintro e W ⟨v1, v2, rfl, h1, h2, hK⟩
  clear C h1
  replace h2 := Lib.hid h2
  replace hK := Lib.hid hK
  go_wp2_with fail
  go_ret
  exact ⟨_, rfl, h2.out, hK.out⟩

theorem oCan (o : Od) (h : o.ok) (w : World) :
    Calls Tryd.prog 38 #[valO o] w fun e w' => e = .returned (.bool (canT o.ts)) ∧ KeptIn (· < w.heap.size) w w' := by
  have C := oParts o h w
  generalize valO o = x at C ⊢
  generalize canT o.ts = b at C ⊢
  replace C := Lib.hid C
  go_enter Tryd.func38, Tryd.ntmps38
  go_wp2_with fail
  refine C.out.mono ?_
  rintro e W ⟨v1, v2, rfl, h1, h2, hK⟩
  clear C h1 h2
  replace hK := Lib.hid hK
  go_wp2_with fail
  go_ret
  exact ⟨rfl, hK.out⟩

theorem hasCreate (v : Value) (W : World) : (Instr.typeAssert (.iface 62 v) 20 24 true).run Tryd.prog W = .ok (.tuple #[.iface 62 v, .bool true]) W := run_typeAssert_hasB Tryd.underlying24 (by kernel_rfl) v _ W
theorem hasDelete (v : Value) (W : World) : (Instr.typeAssert (.iface 64 v) 20 24 true).run Tryd.prog W = .ok (.tuple #[.iface 64 v, .bool true]) W := run_typeAssert_hasB Tryd.underlying24 (by kernel_rfl) v _ W
theorem hasSnap (v : Value) (W : World) : (Instr.typeAssert (.iface 66 v) 20 24 true).run Tryd.prog W = .ok (.tuple #[.iface 66 v, .bool true]) W := run_typeAssert_hasB Tryd.underlying24 (by kernel_rfl) v _ W
theorem hasResize (v : Value) (W : World) : (Instr.typeAssert (.iface 67 v) 20 24 true).run Tryd.prog W = .ok (.tuple #[.iface 67 v, .bool true]) W := run_typeAssert_hasB Tryd.underlying24 (by kernel_rfl) v _ W
theorem hasPin (v : Value) (W : World) : (Instr.typeAssert (.iface 68 v) 20 24 true).run Tryd.prog W = .ok (.tuple #[.iface 68 v, .bool true]) W := run_typeAssert_hasB Tryd.underlying24 (by kernel_rfl) v _ W
theorem hasFree (v : Value) (W : World) : (Instr.typeAssert (.iface 69 v) 20 24 true).run Tryd.prog W = .ok (.tuple #[.iface 69 v, .bool true]) W := run_typeAssert_hasB Tryd.underlying24 (by kernel_rfl) v _ W
theorem hasRead (v : Value) (W : World) : (Instr.typeAssert (.iface 71 v) 20 24 true).run Tryd.prog W = .ok (.tuple #[.iface 71 v, .bool true]) W := run_typeAssert_hasB Tryd.underlying24 (by kernel_rfl) v _ W
theorem hasWrite (v : Value) (W : World) : (Instr.typeAssert (.iface 73 v) 20 24 true).run Tryd.prog W = .ok (.tuple #[.iface 73 v, .bool true]) W := run_typeAssert_hasB Tryd.underlying24 (by kernel_rfl) v _ W
theorem hasDiscard (v : Value) (W : World) : (Instr.typeAssert (.iface 74 v) 20 24 true).run Tryd.prog W = .ok (.tuple #[.iface 74 v, .bool true]) W := run_typeAssert_hasB Tryd.underlying24 (by kernel_rfl) v _ W
theorem hasFlush (v : Value) (W : World) : (Instr.typeAssert (.iface 76 v) 20 24 true).run Tryd.prog W = .ok (.tuple #[.iface 76 v, .bool true]) W := run_typeAssert_hasB Tryd.underlying24 (by kernel_rfl) v _ W
theorem hasTick (v : Value) (W : World) : (Instr.typeAssert (.iface 58 v) 20 24 true).run Tryd.prog W = .ok (.tuple #[.iface 58 v, .bool true]) W := run_typeAssert_hasB Tryd.underlying24 (by kernel_rfl) v _ W
theorem hasDecay (v : Value) (W : World) : (Instr.typeAssert (.iface 77 v) 20 24 true).run Tryd.prog W = .ok (.tuple #[.iface 77 v, .bool true]) W := run_typeAssert_hasB Tryd.underlying24 (by kernel_rfl) v _ W
theorem hasStatus (v : Value) (W : World) : (Instr.typeAssert (.iface 78 v) 20 24 true).run Tryd.prog W = .ok (.tuple #[.iface 78 v, .bool true]) W := run_typeAssert_hasB Tryd.underlying24 (by kernel_rfl) v _ W
theorem hasFuse (v : Value) (W : World) : (Instr.typeAssert (.iface 80 v) 20 24 true).run Tryd.prog W = .ok (.tuple #[.iface 80 v, .bool true]) W := run_typeAssert_hasB Tryd.underlying24 (by kernel_rfl) v _ W
theorem hasCrash (v : Value) (W : World) : (Instr.typeAssert (.iface 82 v) 20 24 true).run Tryd.prog W = .ok (.tuple #[.iface 82 v, .bool true]) W := run_typeAssert_hasB Tryd.underlying24 (by kernel_rfl) v _ W
theorem hasO (o : Od) (h : o.ok) : ∀ W, (Instr.typeAssert (valO o) 20 24 true).run Tryd.prog W = .ok (.tuple #[valO o, .bool true]) W :=
  Od.ways (fun o => ∀ W, (Instr.typeAssert (valO o) 20 24 true).run Tryd.prog W = .ok (.tuple #[valO o, .bool true]) W) (fun _ _ => hasCreate _) (fun _ => hasDelete _) (fun _ _ => hasSnap _) (fun _ _ => hasResize _) (fun _ => hasPin _) (fun _ => hasFree _) (fun _ _ _ => hasRead _) (fun _ _ _ => hasWrite _) (fun _ _ _ => hasDiscard _) (hasFlush _) (fun _ => hasTick _) (hasDecay _) (hasStatus _) (fun _ => hasFuse _) (fun _ _ _ => hasCrash _) o h

/-- Must of an order that can be. -/
theorem oMust (o : Od) (h : o.ok) (hc : canT o.ts = true) (w : World) :
    Calls Tryd.prog 25 #[valO o] w fun e w' => e = .returned (valO o) ∧ KeptIn (· < w.heap.size) w w' := by
  have C := oCan o h w
  have ha := hasO o h
  rw [hc] at C
  generalize valO o = x at C ha ⊢
  replace C := Lib.hid C
  go_enter Tryd.func25, Tryd.ntmps25
  go_wp2_with fail
  refine C.out.mono ?_
  rintro e W ⟨rfl, hK⟩
  clear C
  replace hK := Lib.hid hK
  go_wp2_with fail
  go_ret
  exact ⟨rfl, hK.out⟩

/-- The word of an order: which function it is (263: how far the model looks for a method in a program of so many types). -/
def WordP (o : Od) : Prop := ∃ f x, (∀ W : World, (method 263 (tyO o.k) (.agg (numC o.ns ++ txtC o.ts).toArray) "Word").run Tryd.prog W = .ok (f, x) W) ∧ (∀ W : World, (callFunc f #[x]).run Tryd.prog W = .ok (.enter f #[x]) W) ∧ ∀ w, Calls Tryd.prog f #[x] w fun e w' => e = .returned (.string ⟨(wordL o.k).toArray⟩) ∧ KeptIn (· < w.heap.size) w w'
theorem oWord (o : Od) (h : o.ok) : WordP o :=
  Od.ways WordP (fun a b => ⟨102, _, fun w => by kernel_rfl, fun w => by kernel_rfl, fun w => wordCreate a b w⟩) (fun a => ⟨103, _, fun w => by kernel_rfl, fun w => by kernel_rfl, fun w => wordDelete a w⟩) (fun a b => ⟨104, _, fun w => by kernel_rfl, fun w => by kernel_rfl, fun w => wordSnap a b w⟩) (fun a b => ⟨105, _, fun w => by kernel_rfl, fun w => by kernel_rfl, fun w => wordResize a b w⟩) (fun a => ⟨106, _, fun w => by kernel_rfl, fun w => by kernel_rfl, fun w => wordPin a w⟩) (fun a => ⟨107, _, fun w => by kernel_rfl, fun w => by kernel_rfl, fun w => wordFree a w⟩) (fun a b c => ⟨108, _, fun w => by kernel_rfl, fun w => by kernel_rfl, fun w => wordRead a b c w⟩) (fun a b s => ⟨109, _, fun w => by kernel_rfl, fun w => by kernel_rfl, fun w => wordWrite a b s w⟩) (fun a b c => ⟨110, _, fun w => by kernel_rfl, fun w => by kernel_rfl, fun w => wordDiscard a b c w⟩) (⟨111, _, fun w => by kernel_rfl, fun w => by kernel_rfl, fun w => wordFlush  w⟩) (fun a => ⟨101, _, fun w => by kernel_rfl, fun w => by kernel_rfl, fun w => wordTick a w⟩) (⟨112, _, fun w => by kernel_rfl, fun w => by kernel_rfl, fun w => wordDecay  w⟩) (⟨113, _, fun w => by kernel_rfl, fun w => by kernel_rfl, fun w => wordStatus  w⟩) (fun a => ⟨114, _, fun w => by kernel_rfl, fun w => by kernel_rfl, fun w => wordFuse a w⟩) (fun s t u => ⟨115, _, fun w => by kernel_rfl, fun w => by kernel_rfl, fun w => wordCrash s t u w⟩) o h

end Go.Proofs.YtipalcllmbmhfaaDoor
