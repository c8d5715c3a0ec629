/- Order: an order of a kind with these fields. -/
import Derived.Test.YtlldmebjgidbaaaDoorBl20
import Derived.Deep.QuietTactic
import Derived.BigQuiet
set_option linter.unusedVariables false
set_option linter.unusedSimpArgs false
namespace Go.Proofs.YtlldmebjgidbaaaDoor
open Go.RowKit

def WithP (o : Od) : Prop := ∀ (a1 a2 : Option Addr) (W : World), RdN a1 o.ns W → RdT a2 o.ts W →
  Calls Tryd.prog 31 #[valO (zo o.k), .slice a1 o.ns.length o.ns.length, .slice a2 o.ts.length o.ts.length] W fun e w' => e = .returned (valO o) ∧ KeptIn (· < W.heap.size) W w'

set_option maxRecDepth 1000000 in
theorem withCreate (a b : Int) : WithP ⟨0, [a, b], []⟩ := by
  intro a1 a2 W h1 h2
  obtain ⟨g, rfl, c0⟩ := h1 0 _ rfl
  obtain ⟨g1, e1, c1⟩ := h1 1 _ rfl
  obtain rfl : g = g1 := by simpa using e1
  simp only [List.length_cons, List.length_nil, Nat.zero_add, Nat.reduceAdd]
  show Calls Tryd.prog 31 #[.iface 50 (.agg #[.int .i64 0, .int .i64 0]), _, _] W _
  have y := fun W => askCreate_yes W (.agg #[.int .i64 0, .int .i64 0])
  clear h1 h2
  go_enter Tryd.func31, Tryd.ntmps31
  go_wp2_with fail
  go_quiet (fail)
  go_wp2_with fail
  go_ret
  first | exact ⟨rfl, .refl _ _⟩ | exact ⟨rfl, (KeptIn.refl _ _).drew⟩ | exact ⟨rfl, (KeptIn.refl _ _).drewN _⟩
set_option maxRecDepth 1000000 in
theorem withDelete (a : Int) : WithP ⟨1, [a], []⟩ := by
  intro a1 a2 W h1 h2
  obtain ⟨g, rfl, c0⟩ := h1 0 _ rfl
  simp only [List.length_cons, List.length_nil, Nat.zero_add, Nat.reduceAdd]
  show Calls Tryd.prog 31 #[.iface 56 (.agg #[.int .i64 0]), _, _] W _
  have n0 := askCreate_no 56 (.agg #[.int .i64 0]) (by decide)
  have y := fun W => askDelete_yes W (.agg #[.int .i64 0])
  clear h1 h2
  go_enter Tryd.func31, Tryd.ntmps31
  go_wp2_with fail
  go_ret
  first | exact ⟨rfl, .refl _ _⟩ | exact ⟨rfl, (KeptIn.refl _ _).drew⟩ | exact ⟨rfl, (KeptIn.refl _ _).drewN _⟩
set_option maxRecDepth 1000000 in
theorem withSnap (a b : Int) : WithP ⟨2, [a, b], []⟩ := by
  intro a1 a2 W h1 h2
  obtain ⟨g, rfl, c0⟩ := h1 0 _ rfl
  obtain ⟨g1, e1, c1⟩ := h1 1 _ rfl
  obtain rfl : g = g1 := by simpa using e1
  simp only [List.length_cons, List.length_nil, Nat.zero_add, Nat.reduceAdd]
  show Calls Tryd.prog 31 #[.iface 58 (.agg #[.int .i64 0, .int .i64 0]), _, _] W _
  have n0 := askCreate_no 58 (.agg #[.int .i64 0, .int .i64 0]) (by decide)
  have n1 := askDelete_no 58 (.agg #[.int .i64 0, .int .i64 0]) (by decide)
  have y := fun W => askSnap_yes W (.agg #[.int .i64 0, .int .i64 0])
  clear h1 h2
  go_enter Tryd.func31, Tryd.ntmps31
  go_wp2_with fail
  go_quiet (fail)
  go_wp2_with fail
  go_ret
  first | exact ⟨rfl, .refl _ _⟩ | exact ⟨rfl, (KeptIn.refl _ _).drew⟩ | exact ⟨rfl, (KeptIn.refl _ _).drewN _⟩
set_option maxRecDepth 1000000 in
theorem withResize (a b : Int) : WithP ⟨3, [a, b], []⟩ := by
  intro a1 a2 W h1 h2
  obtain ⟨g, rfl, c0⟩ := h1 0 _ rfl
  obtain ⟨g1, e1, c1⟩ := h1 1 _ rfl
  obtain rfl : g = g1 := by simpa using e1
  simp only [List.length_cons, List.length_nil, Nat.zero_add, Nat.reduceAdd]
  show Calls Tryd.prog 31 #[.iface 59 (.agg #[.int .i64 0, .int .i64 0]), _, _] W _
  have n0 := askCreate_no 59 (.agg #[.int .i64 0, .int .i64 0]) (by decide)
  have n1 := askDelete_no 59 (.agg #[.int .i64 0, .int .i64 0]) (by decide)
  have n2 := askSnap_no 59 (.agg #[.int .i64 0, .int .i64 0]) (by decide)
  have y := fun W => askResize_yes W (.agg #[.int .i64 0, .int .i64 0])
  clear h1 h2
  go_enter Tryd.func31, Tryd.ntmps31
  go_wp2_with fail
  go_quiet (fail)
  go_wp2_with fail
  go_ret
  first | exact ⟨rfl, .refl _ _⟩ | exact ⟨rfl, (KeptIn.refl _ _).drew⟩ | exact ⟨rfl, (KeptIn.refl _ _).drewN _⟩
set_option maxRecDepth 1000000 in
theorem withPin (a : Int) : WithP ⟨4, [a], []⟩ := by
  intro a1 a2 W h1 h2
  obtain ⟨g, rfl, c0⟩ := h1 0 _ rfl
  simp only [List.length_cons, List.length_nil, Nat.zero_add, Nat.reduceAdd]
  show Calls Tryd.prog 31 #[.iface 60 (.agg #[.int .i64 0]), _, _] W _
  have n0 := askCreate_no 60 (.agg #[.int .i64 0]) (by decide)
  have n1 := askDelete_no 60 (.agg #[.int .i64 0]) (by decide)
  have n2 := askSnap_no 60 (.agg #[.int .i64 0]) (by decide)
  have n3 := askResize_no 60 (.agg #[.int .i64 0]) (by decide)
  have y := fun W => askPin_yes W (.agg #[.int .i64 0])
  clear h1 h2
  go_enter Tryd.func31, Tryd.ntmps31
  go_wp2_with fail
  go_ret
  first | exact ⟨rfl, .refl _ _⟩ | exact ⟨rfl, (KeptIn.refl _ _).drew⟩ | exact ⟨rfl, (KeptIn.refl _ _).drewN _⟩
set_option maxRecDepth 1000000 in
theorem withFree (a : Int) : WithP ⟨5, [a], []⟩ := by
  intro a1 a2 W h1 h2
  obtain ⟨g, rfl, c0⟩ := h1 0 _ rfl
  simp only [List.length_cons, List.length_nil, Nat.zero_add, Nat.reduceAdd]
  show Calls Tryd.prog 31 #[.iface 61 (.agg #[.int .i64 0]), _, _] W _
  have n0 := askCreate_no 61 (.agg #[.int .i64 0]) (by decide)
  have n1 := askDelete_no 61 (.agg #[.int .i64 0]) (by decide)
  have n2 := askSnap_no 61 (.agg #[.int .i64 0]) (by decide)
  have n3 := askResize_no 61 (.agg #[.int .i64 0]) (by decide)
  have n4 := askPin_no 61 (.agg #[.int .i64 0]) (by decide)
  have y := fun W => askFree_yes W (.agg #[.int .i64 0])
  clear h1 h2
  go_enter Tryd.func31, Tryd.ntmps31
  go_wp2_with fail
  go_ret
  first | exact ⟨rfl, .refl _ _⟩ | exact ⟨rfl, (KeptIn.refl _ _).drew⟩ | exact ⟨rfl, (KeptIn.refl _ _).drewN _⟩
set_option maxRecDepth 1000000 in
theorem withRead (a b c : Int) : WithP ⟨6, [a, b, c], []⟩ := by
  intro a1 a2 W h1 h2
  obtain ⟨g, rfl, c0⟩ := h1 0 _ rfl
  obtain ⟨g1, e1, c1⟩ := h1 1 _ rfl
  obtain rfl : g = g1 := by simpa using e1
  obtain ⟨g2, e2, c2⟩ := h1 2 _ rfl
  obtain rfl : g = g2 := by simpa using e2
  simp only [List.length_cons, List.length_nil, Nat.zero_add, Nat.reduceAdd]
  show Calls Tryd.prog 31 #[.iface 63 (.agg #[.int .i64 0, .int .i64 0, .int .i64 0]), _, _] W _
  have n0 := askCreate_no 63 (.agg #[.int .i64 0, .int .i64 0, .int .i64 0]) (by decide)
  have n1 := askDelete_no 63 (.agg #[.int .i64 0, .int .i64 0, .int .i64 0]) (by decide)
  have n2 := askSnap_no 63 (.agg #[.int .i64 0, .int .i64 0, .int .i64 0]) (by decide)
  have n3 := askResize_no 63 (.agg #[.int .i64 0, .int .i64 0, .int .i64 0]) (by decide)
  have n4 := askPin_no 63 (.agg #[.int .i64 0, .int .i64 0, .int .i64 0]) (by decide)
  have n5 := askFree_no 63 (.agg #[.int .i64 0, .int .i64 0, .int .i64 0]) (by decide)
  have y := fun W => askRead_yes W (.agg #[.int .i64 0, .int .i64 0, .int .i64 0])
  clear h1 h2
  go_enter Tryd.func31, Tryd.ntmps31
  go_wp2_with fail
  go_quiet (fail)
  go_wp2_with fail
  go_ret
  first | exact ⟨rfl, .refl _ _⟩ | exact ⟨rfl, (KeptIn.refl _ _).drew⟩ | exact ⟨rfl, (KeptIn.refl _ _).drewN _⟩
set_option maxRecDepth 1000000 in
theorem withWrite (a b : Int) (s : List UInt8) : WithP ⟨7, [a, b], [s]⟩ := by
  intro a1 a2 W h1 h2
  obtain ⟨g, rfl, c0⟩ := h1 0 _ rfl
  obtain ⟨g1, e1, c1⟩ := h1 1 _ rfl
  obtain rfl : g = g1 := by simpa using e1
  obtain ⟨q, rfl, b0⟩ := h2 0 _ rfl
  simp only [List.length_cons, List.length_nil, Nat.zero_add, Nat.reduceAdd]
  show Calls Tryd.prog 31 #[.iface 65 (.agg #[.int .i64 0, .int .i64 0, .string ⟨#[]⟩]), _, _] W _
  have n0 := askCreate_no 65 (.agg #[.int .i64 0, .int .i64 0, .string ⟨#[]⟩]) (by decide)
  have n1 := askDelete_no 65 (.agg #[.int .i64 0, .int .i64 0, .string ⟨#[]⟩]) (by decide)
  have n2 := askSnap_no 65 (.agg #[.int .i64 0, .int .i64 0, .string ⟨#[]⟩]) (by decide)
  have n3 := askResize_no 65 (.agg #[.int .i64 0, .int .i64 0, .string ⟨#[]⟩]) (by decide)
  have n4 := askPin_no 65 (.agg #[.int .i64 0, .int .i64 0, .string ⟨#[]⟩]) (by decide)
  have n5 := askFree_no 65 (.agg #[.int .i64 0, .int .i64 0, .string ⟨#[]⟩]) (by decide)
  have n6 := askRead_no 65 (.agg #[.int .i64 0, .int .i64 0, .string ⟨#[]⟩]) (by decide)
  have y := fun W => askWrite_yes W (.agg #[.int .i64 0, .int .i64 0, .string ⟨#[]⟩])
  clear h1 h2
  go_enter Tryd.func31, Tryd.ntmps31
  go_wp2_with fail
  go_quiet (fail)
  go_wp2_with fail
  go_ret
  first | exact ⟨rfl, .refl _ _⟩ | exact ⟨rfl, (KeptIn.refl _ _).drew⟩ | exact ⟨rfl, (KeptIn.refl _ _).drewN _⟩
set_option maxRecDepth 1000000 in
theorem withDiscard (a b c : Int) : WithP ⟨8, [a, b, c], []⟩ := by
  intro a1 a2 W h1 h2
  obtain ⟨g, rfl, c0⟩ := h1 0 _ rfl
  obtain ⟨g1, e1, c1⟩ := h1 1 _ rfl
  obtain rfl : g = g1 := by simpa using e1
  obtain ⟨g2, e2, c2⟩ := h1 2 _ rfl
  obtain rfl : g = g2 := by simpa using e2
  simp only [List.length_cons, List.length_nil, Nat.zero_add, Nat.reduceAdd]
  show Calls Tryd.prog 31 #[.iface 66 (.agg #[.int .i64 0, .int .i64 0, .int .i64 0]), _, _] W _
  have n0 := askCreate_no 66 (.agg #[.int .i64 0, .int .i64 0, .int .i64 0]) (by decide)
  have n1 := askDelete_no 66 (.agg #[.int .i64 0, .int .i64 0, .int .i64 0]) (by decide)
  have n2 := askSnap_no 66 (.agg #[.int .i64 0, .int .i64 0, .int .i64 0]) (by decide)
  have n3 := askResize_no 66 (.agg #[.int .i64 0, .int .i64 0, .int .i64 0]) (by decide)
  have n4 := askPin_no 66 (.agg #[.int .i64 0, .int .i64 0, .int .i64 0]) (by decide)
  have n5 := askFree_no 66 (.agg #[.int .i64 0, .int .i64 0, .int .i64 0]) (by decide)
  have n6 := askRead_no 66 (.agg #[.int .i64 0, .int .i64 0, .int .i64 0]) (by decide)
  have n7 := askWrite_no 66 (.agg #[.int .i64 0, .int .i64 0, .int .i64 0]) (by decide)
  have y := fun W => askDiscard_yes W (.agg #[.int .i64 0, .int .i64 0, .int .i64 0])
  clear h1 h2
  go_enter Tryd.func31, Tryd.ntmps31
  go_wp2_with fail
  go_quiet (fail)
  go_wp2_with fail
  go_ret
  first | exact ⟨rfl, .refl _ _⟩ | exact ⟨rfl, (KeptIn.refl _ _).drew⟩ | exact ⟨rfl, (KeptIn.refl _ _).drewN _⟩
set_option maxRecDepth 1000000 in
theorem withFlush : WithP ⟨9, [], []⟩ := by
  intro a1 a2 W h1 h2
  simp only [List.length_cons, List.length_nil, Nat.zero_add, Nat.reduceAdd]
  show Calls Tryd.prog 31 #[.iface 68 (.agg #[]), _, _] W _
  have n0 := askCreate_no 68 (.agg #[]) (by decide)
  have n1 := askDelete_no 68 (.agg #[]) (by decide)
  have n2 := askSnap_no 68 (.agg #[]) (by decide)
  have n3 := askResize_no 68 (.agg #[]) (by decide)
  have n4 := askPin_no 68 (.agg #[]) (by decide)
  have n5 := askFree_no 68 (.agg #[]) (by decide)
  have n6 := askRead_no 68 (.agg #[]) (by decide)
  have n7 := askWrite_no 68 (.agg #[]) (by decide)
  have n8 := askDiscard_no 68 (.agg #[]) (by decide)
  have n10 := askTick_no 68 (.agg #[]) (by decide)
  have n13 := askFuse_no 68 (.agg #[]) (by decide)
  have n14 := askCrash_no 68 (.agg #[]) (by decide)
  clear h1 h2
  go_enter Tryd.func31, Tryd.ntmps31
  go_wp2_with fail
  go_ret
  first | exact ⟨rfl, .refl _ _⟩ | exact ⟨rfl, (KeptIn.refl _ _).drew⟩ | exact ⟨rfl, (KeptIn.refl _ _).drewN _⟩
set_option maxRecDepth 1000000 in
theorem withTick (a : Int) : WithP ⟨10, [a], []⟩ := by
  intro a1 a2 W h1 h2
  obtain ⟨g, rfl, c0⟩ := h1 0 _ rfl
  simp only [List.length_cons, List.length_nil, Nat.zero_add, Nat.reduceAdd]
  show Calls Tryd.prog 31 #[.iface 70 (.agg #[.int .i64 0]), _, _] W _
  have n0 := askCreate_no 70 (.agg #[.int .i64 0]) (by decide)
  have n1 := askDelete_no 70 (.agg #[.int .i64 0]) (by decide)
  have n2 := askSnap_no 70 (.agg #[.int .i64 0]) (by decide)
  have n3 := askResize_no 70 (.agg #[.int .i64 0]) (by decide)
  have n4 := askPin_no 70 (.agg #[.int .i64 0]) (by decide)
  have n5 := askFree_no 70 (.agg #[.int .i64 0]) (by decide)
  have n6 := askRead_no 70 (.agg #[.int .i64 0]) (by decide)
  have n7 := askWrite_no 70 (.agg #[.int .i64 0]) (by decide)
  have n8 := askDiscard_no 70 (.agg #[.int .i64 0]) (by decide)
  have y := fun W => askTick_yes W (.agg #[.int .i64 0])
  clear h1 h2
  go_enter Tryd.func31, Tryd.ntmps31
  go_wp2_with fail
  go_ret
  first | exact ⟨rfl, .refl _ _⟩ | exact ⟨rfl, (KeptIn.refl _ _).drew⟩ | exact ⟨rfl, (KeptIn.refl _ _).drewN _⟩
set_option maxRecDepth 1000000 in
theorem withDecay : WithP ⟨11, [], []⟩ := by
  intro a1 a2 W h1 h2
  simp only [List.length_cons, List.length_nil, Nat.zero_add, Nat.reduceAdd]
  show Calls Tryd.prog 31 #[.iface 71 (.agg #[]), _, _] W _
  have n0 := askCreate_no 71 (.agg #[]) (by decide)
  have n1 := askDelete_no 71 (.agg #[]) (by decide)
  have n2 := askSnap_no 71 (.agg #[]) (by decide)
  have n3 := askResize_no 71 (.agg #[]) (by decide)
  have n4 := askPin_no 71 (.agg #[]) (by decide)
  have n5 := askFree_no 71 (.agg #[]) (by decide)
  have n6 := askRead_no 71 (.agg #[]) (by decide)
  have n7 := askWrite_no 71 (.agg #[]) (by decide)
  have n8 := askDiscard_no 71 (.agg #[]) (by decide)
  have n10 := askTick_no 71 (.agg #[]) (by decide)
  have n13 := askFuse_no 71 (.agg #[]) (by decide)
  have n14 := askCrash_no 71 (.agg #[]) (by decide)
  clear h1 h2
  go_enter Tryd.func31, Tryd.ntmps31
  go_wp2_with fail
  go_ret
  first | exact ⟨rfl, .refl _ _⟩ | exact ⟨rfl, (KeptIn.refl _ _).drew⟩ | exact ⟨rfl, (KeptIn.refl _ _).drewN _⟩
set_option maxRecDepth 1000000 in
theorem withStatus : WithP ⟨12, [], []⟩ := by
  intro a1 a2 W h1 h2
  simp only [List.length_cons, List.length_nil, Nat.zero_add, Nat.reduceAdd]
  show Calls Tryd.prog 31 #[.iface 72 (.agg #[]), _, _] W _
  have n0 := askCreate_no 72 (.agg #[]) (by decide)
  have n1 := askDelete_no 72 (.agg #[]) (by decide)
  have n2 := askSnap_no 72 (.agg #[]) (by decide)
  have n3 := askResize_no 72 (.agg #[]) (by decide)
  have n4 := askPin_no 72 (.agg #[]) (by decide)
  have n5 := askFree_no 72 (.agg #[]) (by decide)
  have n6 := askRead_no 72 (.agg #[]) (by decide)
  have n7 := askWrite_no 72 (.agg #[]) (by decide)
  have n8 := askDiscard_no 72 (.agg #[]) (by decide)
  have n10 := askTick_no 72 (.agg #[]) (by decide)
  have n13 := askFuse_no 72 (.agg #[]) (by decide)
  have n14 := askCrash_no 72 (.agg #[]) (by decide)
  clear h1 h2
  go_enter Tryd.func31, Tryd.ntmps31
  go_wp2_with fail
  go_ret
  first | exact ⟨rfl, .refl _ _⟩ | exact ⟨rfl, (KeptIn.refl _ _).drew⟩ | exact ⟨rfl, (KeptIn.refl _ _).drewN _⟩
set_option maxRecDepth 1000000 in
theorem withFuse (a : Int) : WithP ⟨13, [a], []⟩ := by
  intro a1 a2 W h1 h2
  obtain ⟨g, rfl, c0⟩ := h1 0 _ rfl
  simp only [List.length_cons, List.length_nil, Nat.zero_add, Nat.reduceAdd]
  show Calls Tryd.prog 31 #[.iface 74 (.agg #[.int .i64 0]), _, _] W _
  have n0 := askCreate_no 74 (.agg #[.int .i64 0]) (by decide)
  have n1 := askDelete_no 74 (.agg #[.int .i64 0]) (by decide)
  have n2 := askSnap_no 74 (.agg #[.int .i64 0]) (by decide)
  have n3 := askResize_no 74 (.agg #[.int .i64 0]) (by decide)
  have n4 := askPin_no 74 (.agg #[.int .i64 0]) (by decide)
  have n5 := askFree_no 74 (.agg #[.int .i64 0]) (by decide)
  have n6 := askRead_no 74 (.agg #[.int .i64 0]) (by decide)
  have n7 := askWrite_no 74 (.agg #[.int .i64 0]) (by decide)
  have n8 := askDiscard_no 74 (.agg #[.int .i64 0]) (by decide)
  have n10 := askTick_no 74 (.agg #[.int .i64 0]) (by decide)
  have y := fun W => askFuse_yes W (.agg #[.int .i64 0])
  clear h1 h2
  go_enter Tryd.func31, Tryd.ntmps31
  go_wp2_with fail
  go_ret
  first | exact ⟨rfl, .refl _ _⟩ | exact ⟨rfl, (KeptIn.refl _ _).drew⟩ | exact ⟨rfl, (KeptIn.refl _ _).drewN _⟩
set_option maxRecDepth 1000000 in
theorem withCrash (s t u : List UInt8) : WithP ⟨14, [], [s, t, u]⟩ := by
  intro a1 a2 W h1 h2
  obtain ⟨q, rfl, b0⟩ := h2 0 _ rfl
  obtain ⟨q1, f1, b1⟩ := h2 1 _ rfl
  obtain rfl : q = q1 := by simpa using f1
  obtain ⟨q2, f2, b2⟩ := h2 2 _ rfl
  obtain rfl : q = q2 := by simpa using f2
  simp only [List.length_cons, List.length_nil, Nat.zero_add, Nat.reduceAdd]
  show Calls Tryd.prog 31 #[.iface 76 (.agg #[.string ⟨#[]⟩, .string ⟨#[]⟩, .string ⟨#[]⟩]), _, _] W _
  have n0 := askCreate_no 76 (.agg #[.string ⟨#[]⟩, .string ⟨#[]⟩, .string ⟨#[]⟩]) (by decide)
  have n1 := askDelete_no 76 (.agg #[.string ⟨#[]⟩, .string ⟨#[]⟩, .string ⟨#[]⟩]) (by decide)
  have n2 := askSnap_no 76 (.agg #[.string ⟨#[]⟩, .string ⟨#[]⟩, .string ⟨#[]⟩]) (by decide)
  have n3 := askResize_no 76 (.agg #[.string ⟨#[]⟩, .string ⟨#[]⟩, .string ⟨#[]⟩]) (by decide)
  have n4 := askPin_no 76 (.agg #[.string ⟨#[]⟩, .string ⟨#[]⟩, .string ⟨#[]⟩]) (by decide)
  have n5 := askFree_no 76 (.agg #[.string ⟨#[]⟩, .string ⟨#[]⟩, .string ⟨#[]⟩]) (by decide)
  have n6 := askRead_no 76 (.agg #[.string ⟨#[]⟩, .string ⟨#[]⟩, .string ⟨#[]⟩]) (by decide)
  have n7 := askWrite_no 76 (.agg #[.string ⟨#[]⟩, .string ⟨#[]⟩, .string ⟨#[]⟩]) (by decide)
  have n8 := askDiscard_no 76 (.agg #[.string ⟨#[]⟩, .string ⟨#[]⟩, .string ⟨#[]⟩]) (by decide)
  have n10 := askTick_no 76 (.agg #[.string ⟨#[]⟩, .string ⟨#[]⟩, .string ⟨#[]⟩]) (by decide)
  have n13 := askFuse_no 76 (.agg #[.string ⟨#[]⟩, .string ⟨#[]⟩, .string ⟨#[]⟩]) (by decide)
  have y := fun W => askCrash_yes W (.agg #[.string ⟨#[]⟩, .string ⟨#[]⟩, .string ⟨#[]⟩])
  clear h1 h2
  go_enter Tryd.func31, Tryd.ntmps31
  go_wp2_with fail
  go_quiet (fail)
  go_wp2_with fail
  go_ret
  first | exact ⟨rfl, .refl _ _⟩ | exact ⟨rfl, (KeptIn.refl _ _).drew⟩ | exact ⟨rfl, (KeptIn.refl _ _).drewN _⟩
theorem oWith (o : Od) (h : o.ok) : WithP o :=
  Od.ways WithP (fun a b => withCreate a b) (fun a => withDelete a) (fun a b => withSnap a b) (fun a b => withResize a b) (fun a => withPin a) (fun a => withFree a) (fun a b c => withRead a b c) (fun a b s => withWrite a b s) (fun a b c => withDiscard a b c) (withFlush) (fun a => withTick a) (withDecay) (withStatus) (fun a => withFuse a) (fun s t u => withCrash s t u) o h

end Go.Proofs.YtlldmebjgidbaaaDoor
