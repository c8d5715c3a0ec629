/- Order: an order's fields. -/
import Derived.Test.YtlldmebjgidbaaaDoorOr20
import Derived.OwnWalk
import Derived.BigRegion
set_option linter.unusedVariables false
namespace Go.Proofs.YtlldmebjgidbaaaDoor
open Go.RowKit

/-- A slice of the numbers ns, in a block of its own behind B. -/
def RowN (v : Value) (ns : List Int) (B : Nat) (w : World) : Prop :=
  (ns = [] ∧ v = .slice none 0 0) ∨ ∃ b, B ≤ b ∧ v = .slice (some ⟨b, 0, none⟩) ns.length ns.length ∧ w.heap[b]? = some (.cells (numC ns).toArray 3 (0, 0))
/-- A slice of the texts ts, likewise. -/
def RowT (v : Value) (ts : List (List UInt8)) (B : Nat) (w : World) : Prop :=
  (ts = [] ∧ v = .slice none 0 0) ∨ ∃ b, B ≤ b ∧ v = .slice (some ⟨b, 0, none⟩) ts.length ts.length ∧ w.heap[b]? = some (.cells (txtC ts).toArray 9 (0, 0))

theorem RowN.old {v : Value} {ns : List Int} {B : Nat} {w w' : World} (h : RowN v ns B w) (k : KeptIn (· < w.heap.size) w w') : RowN v ns B w' := by
  rcases h with h | ⟨b, h1, h2, h3⟩
  · exact .inl h
  · exact .inr ⟨b, h1, h2, by rw [k.block b (Array.getElem?_eq_some_iff.1 h3).1]; exact h3⟩
theorem RowT.old {v : Value} {ts : List (List UInt8)} {B : Nat} {w w' : World} (h : RowT v ts B w) (k : KeptIn (· < w.heap.size) w w') : RowT v ts B w' := by
  rcases h with h | ⟨b, h1, h2, h3⟩
  · exact .inl h
  · exact .inr ⟨b, h1, h2, by rw [k.block b (Array.getElem?_eq_some_iff.1 h3).1]; exact h3⟩

theorem alloc2_new (w : World) (X Y : Obj) : ((w.alloc X).alloc Y).heap[w.heap.size + 1]? = some Y := by
  have := heap_alloc_new (w.alloc X) Y
  rw [show (w.alloc X).heap.size = w.heap.size + 1 by simp] at this
  exact this
theorem alloc3_new (w : World) (X Y Z : Obj) : (((w.alloc X).alloc Y).alloc Z).heap[w.heap.size + 2]? = some Z := by
  have := alloc2_new (w.alloc X) Y Z
  rw [show (w.alloc X).heap.size + 1 = w.heap.size + 2 by simp] at this
  exact this
theorem alloc3_mid (w : World) (X Y Z : Obj) : (((w.alloc X).alloc Y).alloc Z).heap[w.heap.size + 1]? = some Y := by
  rw [Lib.alloc_old _ Z _ (by simp)]
  exact alloc2_new w X Y
theorem kept2 (w : World) (X Y : Obj) : KeptIn (· < w.heap.size) w ((w.alloc X).alloc Y) := ((KeptIn.refl _ _).alloc (fun _ h => h) _).alloc (fun _ h => h) _
theorem kept3 (w : World) (X Y Z : Obj) : KeptIn (· < w.heap.size) w (((w.alloc X).alloc Y).alloc Z) := (kept2 w X Y).alloc (fun _ h => h) _

def FldP (o : Od) (w : World) : Prop :=
  Calls Tryd.prog 28 #[valO o] w fun e w' => ∃ v1 v2, e = .returned (.tuple #[v1, v2, .bool true]) ∧ RowN v1 o.ns w.heap.size w' ∧ RowT v2 o.ts w.heap.size w' ∧ KeptIn (· < w.heap.size) w w'

set_option maxRecDepth 1000000 in
theorem fldCreate (a b : Int) (w : World) : FldP ⟨0, [a, b], []⟩ w := by
  show Calls Tryd.prog 28 #[.iface 50 (.agg #[.int .i64 a, .int .i64 b])] w _
  have y := fun W => askCreate_yes W (.agg #[.int .i64 a, .int .i64 b])
  go_enter Tryd.func28, Tryd.ntmps28
  go_wp2_with fail
  go_ret3
  exact ⟨_, _, rfl, .inr ⟨_, by omega, rfl, alloc2_new w _ _⟩, .inl ⟨rfl, rfl⟩, kept2 w _ _⟩
set_option maxRecDepth 1000000 in
theorem fldDelete (a : Int) (w : World) : FldP ⟨1, [a], []⟩ w := by
  show Calls Tryd.prog 28 #[.iface 56 (.agg #[.int .i64 a])] w _
  have n0 := askCreate_no 56 (.agg #[.int .i64 a]) (by decide)
  have y := fun W => askDelete_yes W (.agg #[.int .i64 a])
  go_enter Tryd.func28, Tryd.ntmps28
  go_wp2_with fail
  go_ret3
  exact ⟨_, _, rfl, .inr ⟨_, by omega, rfl, alloc2_new w _ _⟩, .inl ⟨rfl, rfl⟩, kept2 w _ _⟩
set_option maxRecDepth 1000000 in
theorem fldSnap (a b : Int) (w : World) : FldP ⟨2, [a, b], []⟩ w := by
  show Calls Tryd.prog 28 #[.iface 58 (.agg #[.int .i64 a, .int .i64 b])] w _
  have n0 := askCreate_no 58 (.agg #[.int .i64 a, .int .i64 b]) (by decide)
  have n1 := askDelete_no 58 (.agg #[.int .i64 a, .int .i64 b]) (by decide)
  have y := fun W => askSnap_yes W (.agg #[.int .i64 a, .int .i64 b])
  go_enter Tryd.func28, Tryd.ntmps28
  go_wp2_with fail
  go_ret3
  exact ⟨_, _, rfl, .inr ⟨_, by omega, rfl, alloc2_new w _ _⟩, .inl ⟨rfl, rfl⟩, kept2 w _ _⟩
set_option maxRecDepth 1000000 in
theorem fldResize (a b : Int) (w : World) : FldP ⟨3, [a, b], []⟩ w := by
  show Calls Tryd.prog 28 #[.iface 59 (.agg #[.int .i64 a, .int .i64 b])] w _
  have n0 := askCreate_no 59 (.agg #[.int .i64 a, .int .i64 b]) (by decide)
  have n1 := askDelete_no 59 (.agg #[.int .i64 a, .int .i64 b]) (by decide)
  have n2 := askSnap_no 59 (.agg #[.int .i64 a, .int .i64 b]) (by decide)
  have y := fun W => askResize_yes W (.agg #[.int .i64 a, .int .i64 b])
  go_enter Tryd.func28, Tryd.ntmps28
  go_wp2_with fail
  go_ret3
  exact ⟨_, _, rfl, .inr ⟨_, by omega, rfl, alloc2_new w _ _⟩, .inl ⟨rfl, rfl⟩, kept2 w _ _⟩
set_option maxRecDepth 1000000 in
theorem fldPin (a : Int) (w : World) : FldP ⟨4, [a], []⟩ w := by
  show Calls Tryd.prog 28 #[.iface 60 (.agg #[.int .i64 a])] w _
  have n0 := askCreate_no 60 (.agg #[.int .i64 a]) (by decide)
  have n1 := askDelete_no 60 (.agg #[.int .i64 a]) (by decide)
  have n2 := askSnap_no 60 (.agg #[.int .i64 a]) (by decide)
  have n3 := askResize_no 60 (.agg #[.int .i64 a]) (by decide)
  have y := fun W => askPin_yes W (.agg #[.int .i64 a])
  go_enter Tryd.func28, Tryd.ntmps28
  go_wp2_with fail
  go_ret3
  exact ⟨_, _, rfl, .inr ⟨_, by omega, rfl, alloc2_new w _ _⟩, .inl ⟨rfl, rfl⟩, kept2 w _ _⟩
set_option maxRecDepth 1000000 in
theorem fldFree (a : Int) (w : World) : FldP ⟨5, [a], []⟩ w := by
  show Calls Tryd.prog 28 #[.iface 61 (.agg #[.int .i64 a])] w _
  have n0 := askCreate_no 61 (.agg #[.int .i64 a]) (by decide)
  have n1 := askDelete_no 61 (.agg #[.int .i64 a]) (by decide)
  have n2 := askSnap_no 61 (.agg #[.int .i64 a]) (by decide)
  have n3 := askResize_no 61 (.agg #[.int .i64 a]) (by decide)
  have n4 := askPin_no 61 (.agg #[.int .i64 a]) (by decide)
  have y := fun W => askFree_yes W (.agg #[.int .i64 a])
  go_enter Tryd.func28, Tryd.ntmps28
  go_wp2_with fail
  go_ret3
  exact ⟨_, _, rfl, .inr ⟨_, by omega, rfl, alloc2_new w _ _⟩, .inl ⟨rfl, rfl⟩, kept2 w _ _⟩
set_option maxRecDepth 1000000 in
theorem fldRead (a b c : Int) (w : World) : FldP ⟨6, [a, b, c], []⟩ w := by
  show Calls Tryd.prog 28 #[.iface 63 (.agg #[.int .i64 a, .int .i64 b, .int .i64 c])] w _
  have n0 := askCreate_no 63 (.agg #[.int .i64 a, .int .i64 b, .int .i64 c]) (by decide)
  have n1 := askDelete_no 63 (.agg #[.int .i64 a, .int .i64 b, .int .i64 c]) (by decide)
  have n2 := askSnap_no 63 (.agg #[.int .i64 a, .int .i64 b, .int .i64 c]) (by decide)
  have n3 := askResize_no 63 (.agg #[.int .i64 a, .int .i64 b, .int .i64 c]) (by decide)
  have n4 := askPin_no 63 (.agg #[.int .i64 a, .int .i64 b, .int .i64 c]) (by decide)
  have n5 := askFree_no 63 (.agg #[.int .i64 a, .int .i64 b, .int .i64 c]) (by decide)
  have y := fun W => askRead_yes W (.agg #[.int .i64 a, .int .i64 b, .int .i64 c])
  go_enter Tryd.func28, Tryd.ntmps28
  go_wp2_with fail
  go_ret3
  exact ⟨_, _, rfl, .inr ⟨_, by omega, rfl, alloc2_new w _ _⟩, .inl ⟨rfl, rfl⟩, kept2 w _ _⟩
set_option maxRecDepth 1000000 in
theorem fldWrite (a b : Int) (s : List UInt8) (w : World) : FldP ⟨7, [a, b], [s]⟩ w := by
  show Calls Tryd.prog 28 #[.iface 65 (.agg #[.int .i64 a, .int .i64 b, .string ⟨s.toArray⟩])] w _
  have n0 := askCreate_no 65 (.agg #[.int .i64 a, .int .i64 b, .string ⟨s.toArray⟩]) (by decide)
  have n1 := askDelete_no 65 (.agg #[.int .i64 a, .int .i64 b, .string ⟨s.toArray⟩]) (by decide)
  have n2 := askSnap_no 65 (.agg #[.int .i64 a, .int .i64 b, .string ⟨s.toArray⟩]) (by decide)
  have n3 := askResize_no 65 (.agg #[.int .i64 a, .int .i64 b, .string ⟨s.toArray⟩]) (by decide)
  have n4 := askPin_no 65 (.agg #[.int .i64 a, .int .i64 b, .string ⟨s.toArray⟩]) (by decide)
  have n5 := askFree_no 65 (.agg #[.int .i64 a, .int .i64 b, .string ⟨s.toArray⟩]) (by decide)
  have n6 := askRead_no 65 (.agg #[.int .i64 a, .int .i64 b, .string ⟨s.toArray⟩]) (by decide)
  have y := fun W => askWrite_yes W (.agg #[.int .i64 a, .int .i64 b, .string ⟨s.toArray⟩])
  go_enter Tryd.func28, Tryd.ntmps28
  go_wp2_with fail
  have hc : ∀ i, i < 3 → (w.alloc (.cells #[.int .i64 a, .int .i64 b, .string ⟨s.toArray⟩] 65)).cell? ⟨w.heap.size, i, none⟩ = #[.int .i64 a, .int .i64 b, .string ⟨s.toArray⟩][i]? := by
    intro i _
    unfold World.cell?
    rw [heap_alloc_new]
    rfl
  go_region
  all_goals go_wp2_with fail
  all_goals go_ret3
  all_goals first | exact ⟨_, _, rfl, .inr ⟨_, by omega, rfl, alloc3_new w _ _ _⟩, .inr ⟨_, by omega, rfl, alloc3_mid w _ _ _⟩, (kept3 w _ _ _).drew⟩ | exact ⟨_, _, rfl, .inr ⟨_, by omega, rfl, alloc3_mid w _ _ _⟩, .inr ⟨_, by omega, rfl, alloc3_new w _ _ _⟩, (kept3 w _ _ _).drew⟩
set_option maxRecDepth 1000000 in
theorem fldDiscard (a b c : Int) (w : World) : FldP ⟨8, [a, b, c], []⟩ w := by
  show Calls Tryd.prog 28 #[.iface 66 (.agg #[.int .i64 a, .int .i64 b, .int .i64 c])] w _
  have n0 := askCreate_no 66 (.agg #[.int .i64 a, .int .i64 b, .int .i64 c]) (by decide)
  have n1 := askDelete_no 66 (.agg #[.int .i64 a, .int .i64 b, .int .i64 c]) (by decide)
  have n2 := askSnap_no 66 (.agg #[.int .i64 a, .int .i64 b, .int .i64 c]) (by decide)
  have n3 := askResize_no 66 (.agg #[.int .i64 a, .int .i64 b, .int .i64 c]) (by decide)
  have n4 := askPin_no 66 (.agg #[.int .i64 a, .int .i64 b, .int .i64 c]) (by decide)
  have n5 := askFree_no 66 (.agg #[.int .i64 a, .int .i64 b, .int .i64 c]) (by decide)
  have n6 := askRead_no 66 (.agg #[.int .i64 a, .int .i64 b, .int .i64 c]) (by decide)
  have n7 := askWrite_no 66 (.agg #[.int .i64 a, .int .i64 b, .int .i64 c]) (by decide)
  have y := fun W => askDiscard_yes W (.agg #[.int .i64 a, .int .i64 b, .int .i64 c])
  go_enter Tryd.func28, Tryd.ntmps28
  go_wp2_with fail
  go_ret3
  exact ⟨_, _, rfl, .inr ⟨_, by omega, rfl, alloc2_new w _ _⟩, .inl ⟨rfl, rfl⟩, kept2 w _ _⟩
set_option maxRecDepth 1000000 in
theorem fldFlush (w : World) : FldP ⟨9, [], []⟩ w := by
  show Calls Tryd.prog 28 #[.iface 68 (.agg #[])] w _
  have n0 := askCreate_no 68 (.agg #[]) (by decide)
  have n1 := askDelete_no 68 (.agg #[]) (by decide)
  have n2 := askSnap_no 68 (.agg #[]) (by decide)
  have n3 := askResize_no 68 (.agg #[]) (by decide)
  have n4 := askPin_no 68 (.agg #[]) (by decide)
  have n5 := askFree_no 68 (.agg #[]) (by decide)
  have n6 := askRead_no 68 (.agg #[]) (by decide)
  have n7 := askWrite_no 68 (.agg #[]) (by decide)
  have n8 := askDiscard_no 68 (.agg #[]) (by decide)
  have n10 := askTick_no 68 (.agg #[]) (by decide)
  have n13 := askFuse_no 68 (.agg #[]) (by decide)
  have n14 := askCrash_no 68 (.agg #[]) (by decide)
  have n11 := askDecay_no 68 (.agg #[]) (by decide)
  have n12 := askStatus_no 68 (.agg #[]) (by decide)
  have y := fun W => askFlush_yes W (.agg #[])
  go_enter Tryd.func28, Tryd.ntmps28
  go_wp2_with fail
  go_ret3
  exact ⟨_, _, rfl, .inl ⟨rfl, rfl⟩, .inl ⟨rfl, rfl⟩, .refl _ _⟩
set_option maxRecDepth 1000000 in
theorem fldTick (a : Int) (w : World) : FldP ⟨10, [a], []⟩ w := by
  show Calls Tryd.prog 28 #[.iface 70 (.agg #[.int .i64 a])] w _
  have n0 := askCreate_no 70 (.agg #[.int .i64 a]) (by decide)
  have n1 := askDelete_no 70 (.agg #[.int .i64 a]) (by decide)
  have n2 := askSnap_no 70 (.agg #[.int .i64 a]) (by decide)
  have n3 := askResize_no 70 (.agg #[.int .i64 a]) (by decide)
  have n4 := askPin_no 70 (.agg #[.int .i64 a]) (by decide)
  have n5 := askFree_no 70 (.agg #[.int .i64 a]) (by decide)
  have n6 := askRead_no 70 (.agg #[.int .i64 a]) (by decide)
  have n7 := askWrite_no 70 (.agg #[.int .i64 a]) (by decide)
  have n8 := askDiscard_no 70 (.agg #[.int .i64 a]) (by decide)
  have y := fun W => askTick_yes W (.agg #[.int .i64 a])
  go_enter Tryd.func28, Tryd.ntmps28
  go_wp2_with fail
  go_ret3
  exact ⟨_, _, rfl, .inr ⟨_, by omega, rfl, alloc2_new w _ _⟩, .inl ⟨rfl, rfl⟩, kept2 w _ _⟩
set_option maxRecDepth 1000000 in
theorem fldDecay (w : World) : FldP ⟨11, [], []⟩ w := by
  show Calls Tryd.prog 28 #[.iface 71 (.agg #[])] w _
  have n0 := askCreate_no 71 (.agg #[]) (by decide)
  have n1 := askDelete_no 71 (.agg #[]) (by decide)
  have n2 := askSnap_no 71 (.agg #[]) (by decide)
  have n3 := askResize_no 71 (.agg #[]) (by decide)
  have n4 := askPin_no 71 (.agg #[]) (by decide)
  have n5 := askFree_no 71 (.agg #[]) (by decide)
  have n6 := askRead_no 71 (.agg #[]) (by decide)
  have n7 := askWrite_no 71 (.agg #[]) (by decide)
  have n8 := askDiscard_no 71 (.agg #[]) (by decide)
  have n10 := askTick_no 71 (.agg #[]) (by decide)
  have n13 := askFuse_no 71 (.agg #[]) (by decide)
  have n14 := askCrash_no 71 (.agg #[]) (by decide)
  have n9 := askFlush_no 71 (.agg #[]) (by decide)
  have n12 := askStatus_no 71 (.agg #[]) (by decide)
  have y := fun W => askDecay_yes W (.agg #[])
  go_enter Tryd.func28, Tryd.ntmps28
  go_wp2_with fail
  go_ret3
  exact ⟨_, _, rfl, .inl ⟨rfl, rfl⟩, .inl ⟨rfl, rfl⟩, .refl _ _⟩
set_option maxRecDepth 1000000 in
theorem fldStatus (w : World) : FldP ⟨12, [], []⟩ w := by
  show Calls Tryd.prog 28 #[.iface 72 (.agg #[])] w _
  have n0 := askCreate_no 72 (.agg #[]) (by decide)
  have n1 := askDelete_no 72 (.agg #[]) (by decide)
  have n2 := askSnap_no 72 (.agg #[]) (by decide)
  have n3 := askResize_no 72 (.agg #[]) (by decide)
  have n4 := askPin_no 72 (.agg #[]) (by decide)
  have n5 := askFree_no 72 (.agg #[]) (by decide)
  have n6 := askRead_no 72 (.agg #[]) (by decide)
  have n7 := askWrite_no 72 (.agg #[]) (by decide)
  have n8 := askDiscard_no 72 (.agg #[]) (by decide)
  have n10 := askTick_no 72 (.agg #[]) (by decide)
  have n13 := askFuse_no 72 (.agg #[]) (by decide)
  have n14 := askCrash_no 72 (.agg #[]) (by decide)
  have n9 := askFlush_no 72 (.agg #[]) (by decide)
  have n11 := askDecay_no 72 (.agg #[]) (by decide)
  have y := fun W => askStatus_yes W (.agg #[])
  go_enter Tryd.func28, Tryd.ntmps28
  go_wp2_with fail
  go_ret3
  exact ⟨_, _, rfl, .inl ⟨rfl, rfl⟩, .inl ⟨rfl, rfl⟩, .refl _ _⟩
set_option maxRecDepth 1000000 in
theorem fldFuse (a : Int) (w : World) : FldP ⟨13, [a], []⟩ w := by
  show Calls Tryd.prog 28 #[.iface 74 (.agg #[.int .i64 a])] w _
  have n0 := askCreate_no 74 (.agg #[.int .i64 a]) (by decide)
  have n1 := askDelete_no 74 (.agg #[.int .i64 a]) (by decide)
  have n2 := askSnap_no 74 (.agg #[.int .i64 a]) (by decide)
  have n3 := askResize_no 74 (.agg #[.int .i64 a]) (by decide)
  have n4 := askPin_no 74 (.agg #[.int .i64 a]) (by decide)
  have n5 := askFree_no 74 (.agg #[.int .i64 a]) (by decide)
  have n6 := askRead_no 74 (.agg #[.int .i64 a]) (by decide)
  have n7 := askWrite_no 74 (.agg #[.int .i64 a]) (by decide)
  have n8 := askDiscard_no 74 (.agg #[.int .i64 a]) (by decide)
  have n10 := askTick_no 74 (.agg #[.int .i64 a]) (by decide)
  have y := fun W => askFuse_yes W (.agg #[.int .i64 a])
  go_enter Tryd.func28, Tryd.ntmps28
  go_wp2_with fail
  go_ret3
  exact ⟨_, _, rfl, .inr ⟨_, by omega, rfl, alloc2_new w _ _⟩, .inl ⟨rfl, rfl⟩, kept2 w _ _⟩
set_option maxRecDepth 1000000 in
theorem fldCrash (s t u : List UInt8) (w : World) : FldP ⟨14, [], [s, t, u]⟩ w := by
  show Calls Tryd.prog 28 #[.iface 76 (.agg #[.string ⟨s.toArray⟩, .string ⟨t.toArray⟩, .string ⟨u.toArray⟩])] w _
  have n0 := askCreate_no 76 (.agg #[.string ⟨s.toArray⟩, .string ⟨t.toArray⟩, .string ⟨u.toArray⟩]) (by decide)
  have n1 := askDelete_no 76 (.agg #[.string ⟨s.toArray⟩, .string ⟨t.toArray⟩, .string ⟨u.toArray⟩]) (by decide)
  have n2 := askSnap_no 76 (.agg #[.string ⟨s.toArray⟩, .string ⟨t.toArray⟩, .string ⟨u.toArray⟩]) (by decide)
  have n3 := askResize_no 76 (.agg #[.string ⟨s.toArray⟩, .string ⟨t.toArray⟩, .string ⟨u.toArray⟩]) (by decide)
  have n4 := askPin_no 76 (.agg #[.string ⟨s.toArray⟩, .string ⟨t.toArray⟩, .string ⟨u.toArray⟩]) (by decide)
  have n5 := askFree_no 76 (.agg #[.string ⟨s.toArray⟩, .string ⟨t.toArray⟩, .string ⟨u.toArray⟩]) (by decide)
  have n6 := askRead_no 76 (.agg #[.string ⟨s.toArray⟩, .string ⟨t.toArray⟩, .string ⟨u.toArray⟩]) (by decide)
  have n7 := askWrite_no 76 (.agg #[.string ⟨s.toArray⟩, .string ⟨t.toArray⟩, .string ⟨u.toArray⟩]) (by decide)
  have n8 := askDiscard_no 76 (.agg #[.string ⟨s.toArray⟩, .string ⟨t.toArray⟩, .string ⟨u.toArray⟩]) (by decide)
  have n10 := askTick_no 76 (.agg #[.string ⟨s.toArray⟩, .string ⟨t.toArray⟩, .string ⟨u.toArray⟩]) (by decide)
  have n13 := askFuse_no 76 (.agg #[.string ⟨s.toArray⟩, .string ⟨t.toArray⟩, .string ⟨u.toArray⟩]) (by decide)
  have y := fun W => askCrash_yes W (.agg #[.string ⟨s.toArray⟩, .string ⟨t.toArray⟩, .string ⟨u.toArray⟩])
  go_enter Tryd.func28, Tryd.ntmps28
  go_wp2_with fail
  have hc : ∀ i, i < 3 → (w.alloc (.cells #[.string ⟨s.toArray⟩, .string ⟨t.toArray⟩, .string ⟨u.toArray⟩] 76)).cell? ⟨w.heap.size, i, none⟩ = #[.string ⟨s.toArray⟩, .string ⟨t.toArray⟩, .string ⟨u.toArray⟩][i]? := by
    intro i _
    unfold World.cell?
    rw [heap_alloc_new]
    rfl
  go_region
  all_goals go_wp2_with fail
  all_goals go_ret3
  all_goals exact ⟨_, _, rfl, .inl ⟨rfl, rfl⟩, .inr ⟨_, by omega, rfl, alloc2_new w _ _⟩, (kept2 w _ _).drew⟩
theorem oFields (o : Od) (h : o.ok) (w : World) : FldP o w :=
  Od.ways (fun o => FldP o w) (fun a b => fldCreate a b w) (fun a => fldDelete a w) (fun a b => fldSnap a b w) (fun a b => fldResize a b w) (fun a => fldPin a w) (fun a => fldFree a w) (fun a b c => fldRead a b c w) (fun a b s => fldWrite a b s w) (fun a b c => fldDiscard a b c w) (fldFlush  w) (fun a => fldTick a w) (fldDecay  w) (fldStatus  w) (fun a => fldFuse a w) (fun s t u => fldCrash s t u w) o h
set_option maxRecDepth 1000000 in
theorem oFieldsNil (w : World) : Calls Tryd.prog 28 #[.nilIface] w fun e w' => e = .returned (.tuple #[.slice none 0 0, .slice none 0 0, .bool false]) ∧ w' = w := by
  have n0 := askCreate_nil
  have n1 := askDelete_nil
  have n2 := askSnap_nil
  have n3 := askResize_nil
  have n4 := askPin_nil
  have n5 := askFree_nil
  have n6 := askRead_nil
  have n7 := askWrite_nil
  have n8 := askDiscard_nil
  have n10 := askTick_nil
  have n13 := askFuse_nil
  have n14 := askCrash_nil
  have n9 := askFlush_nil
  have n11 := askDecay_nil
  have n12 := askStatus_nil
  go_enter Tryd.func28, Tryd.ntmps28
  go_wp2_with fail
  go_ret3
  exact ⟨rfl, rfl⟩

end Go.Proofs.YtlldmebjgidbaaaDoor
