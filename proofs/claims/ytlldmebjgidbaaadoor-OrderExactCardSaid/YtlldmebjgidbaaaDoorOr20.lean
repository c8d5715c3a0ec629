/- Order: the fifteen types, as values; their words, numbers and texts. -/
import Derived.Test.YtlldmebjgidbaaaDoorBy20
set_option linter.unusedVariables false
namespace Go.Proofs.YtlldmebjgidbaaaDoor
open Go.RowKit

/-- An order: which of the fifteen, its numbers, its texts. -/
structure Od where
  k : Nat
  ns : List Int
  ts : List (List UInt8)

def cn (k : Nat) : Nat := ([2, 1, 2, 2, 1, 1, 3, 2, 3, 0, 1, 0, 0, 1, 0] : List Nat).getD k 0
def ct (k : Nat) : Nat := ([0, 0, 0, 0, 0, 0, 0, 1, 0, 0, 0, 0, 0, 0, 3] : List Nat).getD k 0
def tyO (k : Nat) : TypeId := ([50, 56, 58, 59, 60, 61, 63, 65, 66, 68, 70, 71, 72, 74, 76] : List TypeId).getD k 0
def wordL (k : Nat) : List UInt8 := ([[99, 114, 101, 97, 116, 101], [100, 101, 108, 101, 116, 101], [115, 110, 97, 112], [114, 101, 115, 105, 122, 101], [112, 105, 110], [102, 114, 101, 101], [114, 101, 97, 100], [119, 114, 105, 116, 101], [100, 105, 115, 99, 97, 114, 100], [102, 108, 117, 115, 104], [116, 105, 99, 107], [100, 101, 99, 97, 121], [115, 116, 97, 116, 117, 115], [102, 117, 115, 101], [99, 114, 97, 115, 104]] : List (List UInt8)).getD k []

structure Od.ok (o : Od) : Prop where
  k : o.k < 15
  n : o.ns.length = cn o.k
  t : o.ts.length = ct o.k
  i : ∀ x ∈ o.ns, -9223372036854775808 ≤ x ∧ x ≤ 9223372036854775807
  s : ∀ x ∈ o.ts, x.length ≤ 1099511627776

def numC (ns : List Int) : List Value := ns.map (Value.int .i64)
def txtC (ts : List (List UInt8)) : List Value := ts.map fun t => Value.string ⟨t.toArray⟩
def valO (o : Od) : Value := .iface (tyO o.k) (.agg (numC o.ns ++ txtC o.ts).toArray)

theorem len1 {α : Type} {l : List α} (h : l.length = 1) : ∃ a, l = [a] := by
  match l, h with
  | [a], _ => exact ⟨a, rfl⟩
theorem len2 {α : Type} {l : List α} (h : l.length = 2) : ∃ a b, l = [a, b] := by
  match l, h with
  | [a, b], _ => exact ⟨a, b, rfl⟩
theorem len3 {α : Type} {l : List α} (h : l.length = 3) : ∃ a b c, l = [a, b, c] := by
  match l, h with
  | [a, b, c], _ => exact ⟨a, b, c, rfl⟩
theorem len0 {α : Type} {l : List α} (h : l.length = 0) : l = [] := List.length_eq_zero_iff.1 h

/-- The fifteen ways. -/
theorem Od.ways (P : Od → Prop)
    (h0 : ∀ (a b : Int), P ⟨0, [a, b], []⟩)
    (h1 : ∀ (a : Int), P ⟨1, [a], []⟩)
    (h2 : ∀ (a b : Int), P ⟨2, [a, b], []⟩)
    (h3 : ∀ (a b : Int), P ⟨3, [a, b], []⟩)
    (h4 : ∀ (a : Int), P ⟨4, [a], []⟩)
    (h5 : ∀ (a : Int), P ⟨5, [a], []⟩)
    (h6 : ∀ (a b c : Int), P ⟨6, [a, b, c], []⟩)
    (h7 : ∀ (a b : Int) (s : List UInt8), P ⟨7, [a, b], [s]⟩)
    (h8 : ∀ (a b c : Int), P ⟨8, [a, b, c], []⟩)
    (h9 : P ⟨9, [], []⟩)
    (h10 : ∀ (a : Int), P ⟨10, [a], []⟩)
    (h11 : P ⟨11, [], []⟩)
    (h12 : P ⟨12, [], []⟩)
    (h13 : ∀ (a : Int), P ⟨13, [a], []⟩)
    (h14 : ∀ (s t u : List UInt8), P ⟨14, [], [s, t, u]⟩)
    (o : Od) (h : o.ok) : P o := by
  obtain ⟨k, ns, ts⟩ := o
  obtain ⟨hk, hn, ht, _, _⟩ := h
  simp only at hk hn ht
  match k, hk, hn, ht with
  | 0, _, hn, ht =>
    obtain ⟨a, b, rfl⟩ := len2 (l := ns) hn
    obtain rfl := len0 (l := ts) ht
    exact h0 a b
  | 1, _, hn, ht =>
    obtain ⟨a, rfl⟩ := len1 (l := ns) hn
    obtain rfl := len0 (l := ts) ht
    exact h1 a
  | 2, _, hn, ht =>
    obtain ⟨a, b, rfl⟩ := len2 (l := ns) hn
    obtain rfl := len0 (l := ts) ht
    exact h2 a b
  | 3, _, hn, ht =>
    obtain ⟨a, b, rfl⟩ := len2 (l := ns) hn
    obtain rfl := len0 (l := ts) ht
    exact h3 a b
  | 4, _, hn, ht =>
    obtain ⟨a, rfl⟩ := len1 (l := ns) hn
    obtain rfl := len0 (l := ts) ht
    exact h4 a
  | 5, _, hn, ht =>
    obtain ⟨a, rfl⟩ := len1 (l := ns) hn
    obtain rfl := len0 (l := ts) ht
    exact h5 a
  | 6, _, hn, ht =>
    obtain ⟨a, b, c, rfl⟩ := len3 (l := ns) hn
    obtain rfl := len0 (l := ts) ht
    exact h6 a b c
  | 7, _, hn, ht =>
    obtain ⟨a, b, rfl⟩ := len2 (l := ns) hn
    obtain ⟨s, rfl⟩ := len1 (l := ts) ht
    exact h7 a b s
  | 8, _, hn, ht =>
    obtain ⟨a, b, c, rfl⟩ := len3 (l := ns) hn
    obtain rfl := len0 (l := ts) ht
    exact h8 a b c
  | 9, _, hn, ht =>
    obtain rfl := len0 (l := ns) hn
    obtain rfl := len0 (l := ts) ht
    exact h9 
  | 10, _, hn, ht =>
    obtain ⟨a, rfl⟩ := len1 (l := ns) hn
    obtain rfl := len0 (l := ts) ht
    exact h10 a
  | 11, _, hn, ht =>
    obtain rfl := len0 (l := ns) hn
    obtain rfl := len0 (l := ts) ht
    exact h11 
  | 12, _, hn, ht =>
    obtain rfl := len0 (l := ns) hn
    obtain rfl := len0 (l := ts) ht
    exact h12 
  | 13, _, hn, ht =>
    obtain ⟨a, rfl⟩ := len1 (l := ns) hn
    obtain rfl := len0 (l := ts) ht
    exact h13 a
  | 14, _, hn, ht =>
    obtain rfl := len0 (l := ns) hn
    obtain ⟨s, t, u, rfl⟩ := len3 (l := ts) ht
    exact h14 s t u

/-! ### Whether a value is of a type -/
theorem askCreate_yes (W : World) (v : Value) : (Instr.typeAssert (.iface 50 v) 24 50 true).run Tryd.prog W = .ok (.tuple #[v, .bool true]) W := by kernel_rfl
theorem askCreate_zero (W : World) : (do pure (Value.tuple #[← zeroValue 50, .bool false]) : Sem Value).run Tryd.prog W = .ok (.tuple #[.agg #[.int .i64 0, .int .i64 0], .bool false]) W := by kernel_rfl
theorem askCreate_no (U : TypeId) (v : Value) (h : U ≠ 50) (W : World) : (Instr.typeAssert (.iface U v) 24 50 true).run Tryd.prog W = .ok (.tuple #[.agg #[.int .i64 0, .int .i64 0], .bool false]) W := by
  have e : (Instr.typeAssert (.iface U v) 24 50 true).run Tryd.prog W = (if U = 50 then (pure (Value.tuple #[v, .bool true]) : Sem Value) else (do pure (Value.tuple #[← zeroValue 50, .bool false]))).run Tryd.prog W := by kernel_rfl
  rw [e, if_neg h]
  exact askCreate_zero W
theorem askCreate_nil (W : World) : (Instr.typeAssert .nilIface 24 50 true).run Tryd.prog W = .ok (.tuple #[.agg #[.int .i64 0, .int .i64 0], .bool false]) W := by kernel_rfl
theorem askDelete_yes (W : World) (v : Value) : (Instr.typeAssert (.iface 56 v) 24 56 true).run Tryd.prog W = .ok (.tuple #[v, .bool true]) W := by kernel_rfl
theorem askDelete_zero (W : World) : (do pure (Value.tuple #[← zeroValue 56, .bool false]) : Sem Value).run Tryd.prog W = .ok (.tuple #[.agg #[.int .i64 0], .bool false]) W := by kernel_rfl
theorem askDelete_no (U : TypeId) (v : Value) (h : U ≠ 56) (W : World) : (Instr.typeAssert (.iface U v) 24 56 true).run Tryd.prog W = .ok (.tuple #[.agg #[.int .i64 0], .bool false]) W := by
  have e : (Instr.typeAssert (.iface U v) 24 56 true).run Tryd.prog W = (if U = 56 then (pure (Value.tuple #[v, .bool true]) : Sem Value) else (do pure (Value.tuple #[← zeroValue 56, .bool false]))).run Tryd.prog W := by kernel_rfl
  rw [e, if_neg h]
  exact askDelete_zero W
theorem askDelete_nil (W : World) : (Instr.typeAssert .nilIface 24 56 true).run Tryd.prog W = .ok (.tuple #[.agg #[.int .i64 0], .bool false]) W := by kernel_rfl
theorem askSnap_yes (W : World) (v : Value) : (Instr.typeAssert (.iface 58 v) 24 58 true).run Tryd.prog W = .ok (.tuple #[v, .bool true]) W := by kernel_rfl
theorem askSnap_zero (W : World) : (do pure (Value.tuple #[← zeroValue 58, .bool false]) : Sem Value).run Tryd.prog W = .ok (.tuple #[.agg #[.int .i64 0, .int .i64 0], .bool false]) W := by kernel_rfl
theorem askSnap_no (U : TypeId) (v : Value) (h : U ≠ 58) (W : World) : (Instr.typeAssert (.iface U v) 24 58 true).run Tryd.prog W = .ok (.tuple #[.agg #[.int .i64 0, .int .i64 0], .bool false]) W := by
  have e : (Instr.typeAssert (.iface U v) 24 58 true).run Tryd.prog W = (if U = 58 then (pure (Value.tuple #[v, .bool true]) : Sem Value) else (do pure (Value.tuple #[← zeroValue 58, .bool false]))).run Tryd.prog W := by kernel_rfl
  rw [e, if_neg h]
  exact askSnap_zero W
theorem askSnap_nil (W : World) : (Instr.typeAssert .nilIface 24 58 true).run Tryd.prog W = .ok (.tuple #[.agg #[.int .i64 0, .int .i64 0], .bool false]) W := by kernel_rfl
theorem askResize_yes (W : World) (v : Value) : (Instr.typeAssert (.iface 59 v) 24 59 true).run Tryd.prog W = .ok (.tuple #[v, .bool true]) W := by kernel_rfl
theorem askResize_zero (W : World) : (do pure (Value.tuple #[← zeroValue 59, .bool false]) : Sem Value).run Tryd.prog W = .ok (.tuple #[.agg #[.int .i64 0, .int .i64 0], .bool false]) W := by kernel_rfl
theorem askResize_no (U : TypeId) (v : Value) (h : U ≠ 59) (W : World) : (Instr.typeAssert (.iface U v) 24 59 true).run Tryd.prog W = .ok (.tuple #[.agg #[.int .i64 0, .int .i64 0], .bool false]) W := by
  have e : (Instr.typeAssert (.iface U v) 24 59 true).run Tryd.prog W = (if U = 59 then (pure (Value.tuple #[v, .bool true]) : Sem Value) else (do pure (Value.tuple #[← zeroValue 59, .bool false]))).run Tryd.prog W := by kernel_rfl
  rw [e, if_neg h]
  exact askResize_zero W
theorem askResize_nil (W : World) : (Instr.typeAssert .nilIface 24 59 true).run Tryd.prog W = .ok (.tuple #[.agg #[.int .i64 0, .int .i64 0], .bool false]) W := by kernel_rfl
theorem askPin_yes (W : World) (v : Value) : (Instr.typeAssert (.iface 60 v) 24 60 true).run Tryd.prog W = .ok (.tuple #[v, .bool true]) W := by kernel_rfl
theorem askPin_zero (W : World) : (do pure (Value.tuple #[← zeroValue 60, .bool false]) : Sem Value).run Tryd.prog W = .ok (.tuple #[.agg #[.int .i64 0], .bool false]) W := by kernel_rfl
theorem askPin_no (U : TypeId) (v : Value) (h : U ≠ 60) (W : World) : (Instr.typeAssert (.iface U v) 24 60 true).run Tryd.prog W = .ok (.tuple #[.agg #[.int .i64 0], .bool false]) W := by
  have e : (Instr.typeAssert (.iface U v) 24 60 true).run Tryd.prog W = (if U = 60 then (pure (Value.tuple #[v, .bool true]) : Sem Value) else (do pure (Value.tuple #[← zeroValue 60, .bool false]))).run Tryd.prog W := by kernel_rfl
  rw [e, if_neg h]
  exact askPin_zero W
theorem askPin_nil (W : World) : (Instr.typeAssert .nilIface 24 60 true).run Tryd.prog W = .ok (.tuple #[.agg #[.int .i64 0], .bool false]) W := by kernel_rfl
theorem askFree_yes (W : World) (v : Value) : (Instr.typeAssert (.iface 61 v) 24 61 true).run Tryd.prog W = .ok (.tuple #[v, .bool true]) W := by kernel_rfl
theorem askFree_zero (W : World) : (do pure (Value.tuple #[← zeroValue 61, .bool false]) : Sem Value).run Tryd.prog W = .ok (.tuple #[.agg #[.int .i64 0], .bool false]) W := by kernel_rfl
theorem askFree_no (U : TypeId) (v : Value) (h : U ≠ 61) (W : World) : (Instr.typeAssert (.iface U v) 24 61 true).run Tryd.prog W = .ok (.tuple #[.agg #[.int .i64 0], .bool false]) W := by
  have e : (Instr.typeAssert (.iface U v) 24 61 true).run Tryd.prog W = (if U = 61 then (pure (Value.tuple #[v, .bool true]) : Sem Value) else (do pure (Value.tuple #[← zeroValue 61, .bool false]))).run Tryd.prog W := by kernel_rfl
  rw [e, if_neg h]
  exact askFree_zero W
theorem askFree_nil (W : World) : (Instr.typeAssert .nilIface 24 61 true).run Tryd.prog W = .ok (.tuple #[.agg #[.int .i64 0], .bool false]) W := by kernel_rfl
theorem askRead_yes (W : World) (v : Value) : (Instr.typeAssert (.iface 63 v) 24 63 true).run Tryd.prog W = .ok (.tuple #[v, .bool true]) W := by kernel_rfl
theorem askRead_zero (W : World) : (do pure (Value.tuple #[← zeroValue 63, .bool false]) : Sem Value).run Tryd.prog W = .ok (.tuple #[.agg #[.int .i64 0, .int .i64 0, .int .i64 0], .bool false]) W := by kernel_rfl
theorem askRead_no (U : TypeId) (v : Value) (h : U ≠ 63) (W : World) : (Instr.typeAssert (.iface U v) 24 63 true).run Tryd.prog W = .ok (.tuple #[.agg #[.int .i64 0, .int .i64 0, .int .i64 0], .bool false]) W := by
  have e : (Instr.typeAssert (.iface U v) 24 63 true).run Tryd.prog W = (if U = 63 then (pure (Value.tuple #[v, .bool true]) : Sem Value) else (do pure (Value.tuple #[← zeroValue 63, .bool false]))).run Tryd.prog W := by kernel_rfl
  rw [e, if_neg h]
  exact askRead_zero W
theorem askRead_nil (W : World) : (Instr.typeAssert .nilIface 24 63 true).run Tryd.prog W = .ok (.tuple #[.agg #[.int .i64 0, .int .i64 0, .int .i64 0], .bool false]) W := by kernel_rfl
theorem askWrite_yes (W : World) (v : Value) : (Instr.typeAssert (.iface 65 v) 24 65 true).run Tryd.prog W = .ok (.tuple #[v, .bool true]) W := by kernel_rfl
theorem askWrite_zero (W : World) : (do pure (Value.tuple #[← zeroValue 65, .bool false]) : Sem Value).run Tryd.prog W = .ok (.tuple #[.agg #[.int .i64 0, .int .i64 0, .string ⟨#[]⟩], .bool false]) W := by kernel_rfl
theorem askWrite_no (U : TypeId) (v : Value) (h : U ≠ 65) (W : World) : (Instr.typeAssert (.iface U v) 24 65 true).run Tryd.prog W = .ok (.tuple #[.agg #[.int .i64 0, .int .i64 0, .string ⟨#[]⟩], .bool false]) W := by
  have e : (Instr.typeAssert (.iface U v) 24 65 true).run Tryd.prog W = (if U = 65 then (pure (Value.tuple #[v, .bool true]) : Sem Value) else (do pure (Value.tuple #[← zeroValue 65, .bool false]))).run Tryd.prog W := by kernel_rfl
  rw [e, if_neg h]
  exact askWrite_zero W
theorem askWrite_nil (W : World) : (Instr.typeAssert .nilIface 24 65 true).run Tryd.prog W = .ok (.tuple #[.agg #[.int .i64 0, .int .i64 0, .string ⟨#[]⟩], .bool false]) W := by kernel_rfl
theorem askDiscard_yes (W : World) (v : Value) : (Instr.typeAssert (.iface 66 v) 24 66 true).run Tryd.prog W = .ok (.tuple #[v, .bool true]) W := by kernel_rfl
theorem askDiscard_zero (W : World) : (do pure (Value.tuple #[← zeroValue 66, .bool false]) : Sem Value).run Tryd.prog W = .ok (.tuple #[.agg #[.int .i64 0, .int .i64 0, .int .i64 0], .bool false]) W := by kernel_rfl
theorem askDiscard_no (U : TypeId) (v : Value) (h : U ≠ 66) (W : World) : (Instr.typeAssert (.iface U v) 24 66 true).run Tryd.prog W = .ok (.tuple #[.agg #[.int .i64 0, .int .i64 0, .int .i64 0], .bool false]) W := by
  have e : (Instr.typeAssert (.iface U v) 24 66 true).run Tryd.prog W = (if U = 66 then (pure (Value.tuple #[v, .bool true]) : Sem Value) else (do pure (Value.tuple #[← zeroValue 66, .bool false]))).run Tryd.prog W := by kernel_rfl
  rw [e, if_neg h]
  exact askDiscard_zero W
theorem askDiscard_nil (W : World) : (Instr.typeAssert .nilIface 24 66 true).run Tryd.prog W = .ok (.tuple #[.agg #[.int .i64 0, .int .i64 0, .int .i64 0], .bool false]) W := by kernel_rfl
theorem askFlush_yes (W : World) (v : Value) : (Instr.typeAssert (.iface 68 v) 24 68 true).run Tryd.prog W = .ok (.tuple #[v, .bool true]) W := by kernel_rfl
theorem askFlush_zero (W : World) : (do pure (Value.tuple #[← zeroValue 68, .bool false]) : Sem Value).run Tryd.prog W = .ok (.tuple #[.agg #[], .bool false]) W := by kernel_rfl
theorem askFlush_no (U : TypeId) (v : Value) (h : U ≠ 68) (W : World) : (Instr.typeAssert (.iface U v) 24 68 true).run Tryd.prog W = .ok (.tuple #[.agg #[], .bool false]) W := by
  have e : (Instr.typeAssert (.iface U v) 24 68 true).run Tryd.prog W = (if U = 68 then (pure (Value.tuple #[v, .bool true]) : Sem Value) else (do pure (Value.tuple #[← zeroValue 68, .bool false]))).run Tryd.prog W := by kernel_rfl
  rw [e, if_neg h]
  exact askFlush_zero W
theorem askFlush_nil (W : World) : (Instr.typeAssert .nilIface 24 68 true).run Tryd.prog W = .ok (.tuple #[.agg #[], .bool false]) W := by kernel_rfl
theorem askTick_yes (W : World) (v : Value) : (Instr.typeAssert (.iface 70 v) 24 70 true).run Tryd.prog W = .ok (.tuple #[v, .bool true]) W := by kernel_rfl
theorem askTick_zero (W : World) : (do pure (Value.tuple #[← zeroValue 70, .bool false]) : Sem Value).run Tryd.prog W = .ok (.tuple #[.agg #[.int .i64 0], .bool false]) W := by kernel_rfl
theorem askTick_no (U : TypeId) (v : Value) (h : U ≠ 70) (W : World) : (Instr.typeAssert (.iface U v) 24 70 true).run Tryd.prog W = .ok (.tuple #[.agg #[.int .i64 0], .bool false]) W := by
  have e : (Instr.typeAssert (.iface U v) 24 70 true).run Tryd.prog W = (if U = 70 then (pure (Value.tuple #[v, .bool true]) : Sem Value) else (do pure (Value.tuple #[← zeroValue 70, .bool false]))).run Tryd.prog W := by kernel_rfl
  rw [e, if_neg h]
  exact askTick_zero W
theorem askTick_nil (W : World) : (Instr.typeAssert .nilIface 24 70 true).run Tryd.prog W = .ok (.tuple #[.agg #[.int .i64 0], .bool false]) W := by kernel_rfl
theorem askDecay_yes (W : World) (v : Value) : (Instr.typeAssert (.iface 71 v) 24 71 true).run Tryd.prog W = .ok (.tuple #[v, .bool true]) W := by kernel_rfl
theorem askDecay_zero (W : World) : (do pure (Value.tuple #[← zeroValue 71, .bool false]) : Sem Value).run Tryd.prog W = .ok (.tuple #[.agg #[], .bool false]) W := by kernel_rfl
theorem askDecay_no (U : TypeId) (v : Value) (h : U ≠ 71) (W : World) : (Instr.typeAssert (.iface U v) 24 71 true).run Tryd.prog W = .ok (.tuple #[.agg #[], .bool false]) W := by
  have e : (Instr.typeAssert (.iface U v) 24 71 true).run Tryd.prog W = (if U = 71 then (pure (Value.tuple #[v, .bool true]) : Sem Value) else (do pure (Value.tuple #[← zeroValue 71, .bool false]))).run Tryd.prog W := by kernel_rfl
  rw [e, if_neg h]
  exact askDecay_zero W
theorem askDecay_nil (W : World) : (Instr.typeAssert .nilIface 24 71 true).run Tryd.prog W = .ok (.tuple #[.agg #[], .bool false]) W := by kernel_rfl
theorem askStatus_yes (W : World) (v : Value) : (Instr.typeAssert (.iface 72 v) 24 72 true).run Tryd.prog W = .ok (.tuple #[v, .bool true]) W := by kernel_rfl
theorem askStatus_zero (W : World) : (do pure (Value.tuple #[← zeroValue 72, .bool false]) : Sem Value).run Tryd.prog W = .ok (.tuple #[.agg #[], .bool false]) W := by kernel_rfl
theorem askStatus_no (U : TypeId) (v : Value) (h : U ≠ 72) (W : World) : (Instr.typeAssert (.iface U v) 24 72 true).run Tryd.prog W = .ok (.tuple #[.agg #[], .bool false]) W := by
  have e : (Instr.typeAssert (.iface U v) 24 72 true).run Tryd.prog W = (if U = 72 then (pure (Value.tuple #[v, .bool true]) : Sem Value) else (do pure (Value.tuple #[← zeroValue 72, .bool false]))).run Tryd.prog W := by kernel_rfl
  rw [e, if_neg h]
  exact askStatus_zero W
theorem askStatus_nil (W : World) : (Instr.typeAssert .nilIface 24 72 true).run Tryd.prog W = .ok (.tuple #[.agg #[], .bool false]) W := by kernel_rfl
theorem askFuse_yes (W : World) (v : Value) : (Instr.typeAssert (.iface 74 v) 24 74 true).run Tryd.prog W = .ok (.tuple #[v, .bool true]) W := by kernel_rfl
theorem askFuse_zero (W : World) : (do pure (Value.tuple #[← zeroValue 74, .bool false]) : Sem Value).run Tryd.prog W = .ok (.tuple #[.agg #[.int .i64 0], .bool false]) W := by kernel_rfl
theorem askFuse_no (U : TypeId) (v : Value) (h : U ≠ 74) (W : World) : (Instr.typeAssert (.iface U v) 24 74 true).run Tryd.prog W = .ok (.tuple #[.agg #[.int .i64 0], .bool false]) W := by
  have e : (Instr.typeAssert (.iface U v) 24 74 true).run Tryd.prog W = (if U = 74 then (pure (Value.tuple #[v, .bool true]) : Sem Value) else (do pure (Value.tuple #[← zeroValue 74, .bool false]))).run Tryd.prog W := by kernel_rfl
  rw [e, if_neg h]
  exact askFuse_zero W
theorem askFuse_nil (W : World) : (Instr.typeAssert .nilIface 24 74 true).run Tryd.prog W = .ok (.tuple #[.agg #[.int .i64 0], .bool false]) W := by kernel_rfl
theorem askCrash_yes (W : World) (v : Value) : (Instr.typeAssert (.iface 76 v) 24 76 true).run Tryd.prog W = .ok (.tuple #[v, .bool true]) W := by kernel_rfl
theorem askCrash_zero (W : World) : (do pure (Value.tuple #[← zeroValue 76, .bool false]) : Sem Value).run Tryd.prog W = .ok (.tuple #[.agg #[.string ⟨#[]⟩, .string ⟨#[]⟩, .string ⟨#[]⟩], .bool false]) W := by kernel_rfl
theorem askCrash_no (U : TypeId) (v : Value) (h : U ≠ 76) (W : World) : (Instr.typeAssert (.iface U v) 24 76 true).run Tryd.prog W = .ok (.tuple #[.agg #[.string ⟨#[]⟩, .string ⟨#[]⟩, .string ⟨#[]⟩], .bool false]) W := by
  have e : (Instr.typeAssert (.iface U v) 24 76 true).run Tryd.prog W = (if U = 76 then (pure (Value.tuple #[v, .bool true]) : Sem Value) else (do pure (Value.tuple #[← zeroValue 76, .bool false]))).run Tryd.prog W := by kernel_rfl
  rw [e, if_neg h]
  exact askCrash_zero W
theorem askCrash_nil (W : World) : (Instr.typeAssert .nilIface 24 76 true).run Tryd.prog W = .ok (.tuple #[.agg #[.string ⟨#[]⟩, .string ⟨#[]⟩, .string ⟨#[]⟩], .bool false]) W := by kernel_rfl

/-! ### Words -/
theorem wordCreate (a b : Int) (w : World) : Calls Tryd.prog 97 #[.agg #[.int .i64 a, .int .i64 b]] w fun e w' => e = .returned (.string ⟨(wordL 0).toArray⟩) ∧ KeptIn (· < w.heap.size) w w' := by
  go_enter Tryd.func97, Tryd.ntmps97
  go_wp2_with fail
  go_ret
  first | exact ⟨rfl, .refl _ _⟩ | exact ⟨rfl, (KeptIn.refl _ _).alloc (fun _ h => h) _⟩
theorem callCreate (x : Value) (w : World) : (invoke (.fn (.method "Word") #[]) #[.iface 50 x]).run Tryd.prog w = .ok (.enter 97 #[x]) w := by kernel_rfl
theorem wordDelete (a : Int) (w : World) : Calls Tryd.prog 98 #[.agg #[.int .i64 a]] w fun e w' => e = .returned (.string ⟨(wordL 1).toArray⟩) ∧ KeptIn (· < w.heap.size) w w' := by
  go_enter Tryd.func98, Tryd.ntmps98
  go_wp2_with fail
  go_ret
  first | exact ⟨rfl, .refl _ _⟩ | exact ⟨rfl, (KeptIn.refl _ _).alloc (fun _ h => h) _⟩
theorem callDelete (x : Value) (w : World) : (invoke (.fn (.method "Word") #[]) #[.iface 56 x]).run Tryd.prog w = .ok (.enter 98 #[x]) w := by kernel_rfl
theorem wordSnap (a b : Int) (w : World) : Calls Tryd.prog 99 #[.agg #[.int .i64 a, .int .i64 b]] w fun e w' => e = .returned (.string ⟨(wordL 2).toArray⟩) ∧ KeptIn (· < w.heap.size) w w' := by
  go_enter Tryd.func99, Tryd.ntmps99
  go_wp2_with fail
  go_ret
  first | exact ⟨rfl, .refl _ _⟩ | exact ⟨rfl, (KeptIn.refl _ _).alloc (fun _ h => h) _⟩
theorem callSnap (x : Value) (w : World) : (invoke (.fn (.method "Word") #[]) #[.iface 58 x]).run Tryd.prog w = .ok (.enter 99 #[x]) w := by kernel_rfl
theorem wordResize (a b : Int) (w : World) : Calls Tryd.prog 100 #[.agg #[.int .i64 a, .int .i64 b]] w fun e w' => e = .returned (.string ⟨(wordL 3).toArray⟩) ∧ KeptIn (· < w.heap.size) w w' := by
  go_enter Tryd.func100, Tryd.ntmps100
  go_wp2_with fail
  go_ret
  first | exact ⟨rfl, .refl _ _⟩ | exact ⟨rfl, (KeptIn.refl _ _).alloc (fun _ h => h) _⟩
theorem callResize (x : Value) (w : World) : (invoke (.fn (.method "Word") #[]) #[.iface 59 x]).run Tryd.prog w = .ok (.enter 100 #[x]) w := by kernel_rfl
theorem wordPin (a : Int) (w : World) : Calls Tryd.prog 101 #[.agg #[.int .i64 a]] w fun e w' => e = .returned (.string ⟨(wordL 4).toArray⟩) ∧ KeptIn (· < w.heap.size) w w' := by
  go_enter Tryd.func101, Tryd.ntmps101
  go_wp2_with fail
  go_ret
  first | exact ⟨rfl, .refl _ _⟩ | exact ⟨rfl, (KeptIn.refl _ _).alloc (fun _ h => h) _⟩
theorem callPin (x : Value) (w : World) : (invoke (.fn (.method "Word") #[]) #[.iface 60 x]).run Tryd.prog w = .ok (.enter 101 #[x]) w := by kernel_rfl
theorem wordFree (a : Int) (w : World) : Calls Tryd.prog 102 #[.agg #[.int .i64 a]] w fun e w' => e = .returned (.string ⟨(wordL 5).toArray⟩) ∧ KeptIn (· < w.heap.size) w w' := by
  go_enter Tryd.func102, Tryd.ntmps102
  go_wp2_with fail
  go_ret
  first | exact ⟨rfl, .refl _ _⟩ | exact ⟨rfl, (KeptIn.refl _ _).alloc (fun _ h => h) _⟩
theorem callFree (x : Value) (w : World) : (invoke (.fn (.method "Word") #[]) #[.iface 61 x]).run Tryd.prog w = .ok (.enter 102 #[x]) w := by kernel_rfl
theorem wordRead (a b c : Int) (w : World) : Calls Tryd.prog 103 #[.agg #[.int .i64 a, .int .i64 b, .int .i64 c]] w fun e w' => e = .returned (.string ⟨(wordL 6).toArray⟩) ∧ KeptIn (· < w.heap.size) w w' := by
  go_enter Tryd.func103, Tryd.ntmps103
  go_wp2_with fail
  go_ret
  first | exact ⟨rfl, .refl _ _⟩ | exact ⟨rfl, (KeptIn.refl _ _).alloc (fun _ h => h) _⟩
theorem callRead (x : Value) (w : World) : (invoke (.fn (.method "Word") #[]) #[.iface 63 x]).run Tryd.prog w = .ok (.enter 103 #[x]) w := by kernel_rfl
theorem wordWrite (a b : Int) (s : List UInt8) (w : World) : Calls Tryd.prog 104 #[.agg #[.int .i64 a, .int .i64 b, .string ⟨s.toArray⟩]] w fun e w' => e = .returned (.string ⟨(wordL 7).toArray⟩) ∧ KeptIn (· < w.heap.size) w w' := by
  go_enter Tryd.func104, Tryd.ntmps104
  go_wp2_with fail
  go_ret
  first | exact ⟨rfl, .refl _ _⟩ | exact ⟨rfl, (KeptIn.refl _ _).alloc (fun _ h => h) _⟩
theorem callWrite (x : Value) (w : World) : (invoke (.fn (.method "Word") #[]) #[.iface 65 x]).run Tryd.prog w = .ok (.enter 104 #[x]) w := by kernel_rfl
theorem wordDiscard (a b c : Int) (w : World) : Calls Tryd.prog 105 #[.agg #[.int .i64 a, .int .i64 b, .int .i64 c]] w fun e w' => e = .returned (.string ⟨(wordL 8).toArray⟩) ∧ KeptIn (· < w.heap.size) w w' := by
  go_enter Tryd.func105, Tryd.ntmps105
  go_wp2_with fail
  go_ret
  first | exact ⟨rfl, .refl _ _⟩ | exact ⟨rfl, (KeptIn.refl _ _).alloc (fun _ h => h) _⟩
theorem callDiscard (x : Value) (w : World) : (invoke (.fn (.method "Word") #[]) #[.iface 66 x]).run Tryd.prog w = .ok (.enter 105 #[x]) w := by kernel_rfl
theorem wordFlush (w : World) : Calls Tryd.prog 106 #[.agg #[]] w fun e w' => e = .returned (.string ⟨(wordL 9).toArray⟩) ∧ KeptIn (· < w.heap.size) w w' := by
  go_enter Tryd.func106, Tryd.ntmps106
  go_wp2_with fail
  go_ret
  first | exact ⟨rfl, .refl _ _⟩ | exact ⟨rfl, (KeptIn.refl _ _).alloc (fun _ h => h) _⟩
theorem callFlush (x : Value) (w : World) : (invoke (.fn (.method "Word") #[]) #[.iface 68 x]).run Tryd.prog w = .ok (.enter 106 #[x]) w := by kernel_rfl
theorem wordTick (a : Int) (w : World) : Calls Tryd.prog 107 #[.agg #[.int .i64 a]] w fun e w' => e = .returned (.string ⟨(wordL 10).toArray⟩) ∧ KeptIn (· < w.heap.size) w w' := by
  go_enter Tryd.func107, Tryd.ntmps107
  go_wp2_with fail
  go_ret
  first | exact ⟨rfl, .refl _ _⟩ | exact ⟨rfl, (KeptIn.refl _ _).alloc (fun _ h => h) _⟩
theorem callTick (x : Value) (w : World) : (invoke (.fn (.method "Word") #[]) #[.iface 70 x]).run Tryd.prog w = .ok (.enter 107 #[x]) w := by kernel_rfl
theorem wordDecay (w : World) : Calls Tryd.prog 108 #[.agg #[]] w fun e w' => e = .returned (.string ⟨(wordL 11).toArray⟩) ∧ KeptIn (· < w.heap.size) w w' := by
  go_enter Tryd.func108, Tryd.ntmps108
  go_wp2_with fail
  go_ret
  first | exact ⟨rfl, .refl _ _⟩ | exact ⟨rfl, (KeptIn.refl _ _).alloc (fun _ h => h) _⟩
theorem callDecay (x : Value) (w : World) : (invoke (.fn (.method "Word") #[]) #[.iface 71 x]).run Tryd.prog w = .ok (.enter 108 #[x]) w := by kernel_rfl
theorem wordStatus (w : World) : Calls Tryd.prog 109 #[.agg #[]] w fun e w' => e = .returned (.string ⟨(wordL 12).toArray⟩) ∧ KeptIn (· < w.heap.size) w w' := by
  go_enter Tryd.func109, Tryd.ntmps109
  go_wp2_with fail
  go_ret
  first | exact ⟨rfl, .refl _ _⟩ | exact ⟨rfl, (KeptIn.refl _ _).alloc (fun _ h => h) _⟩
theorem callStatus (x : Value) (w : World) : (invoke (.fn (.method "Word") #[]) #[.iface 72 x]).run Tryd.prog w = .ok (.enter 109 #[x]) w := by kernel_rfl
theorem wordFuse (a : Int) (w : World) : Calls Tryd.prog 110 #[.agg #[.int .i64 a]] w fun e w' => e = .returned (.string ⟨(wordL 13).toArray⟩) ∧ KeptIn (· < w.heap.size) w w' := by
  go_enter Tryd.func110, Tryd.ntmps110
  go_wp2_with fail
  go_ret
  first | exact ⟨rfl, .refl _ _⟩ | exact ⟨rfl, (KeptIn.refl _ _).alloc (fun _ h => h) _⟩
theorem callFuse (x : Value) (w : World) : (invoke (.fn (.method "Word") #[]) #[.iface 74 x]).run Tryd.prog w = .ok (.enter 110 #[x]) w := by kernel_rfl
theorem wordCrash (s t u : List UInt8) (w : World) : Calls Tryd.prog 111 #[.agg #[.string ⟨s.toArray⟩, .string ⟨t.toArray⟩, .string ⟨u.toArray⟩]] w fun e w' => e = .returned (.string ⟨(wordL 14).toArray⟩) ∧ KeptIn (· < w.heap.size) w w' := by
  go_enter Tryd.func111, Tryd.ntmps111
  go_wp2_with fail
  go_ret
  first | exact ⟨rfl, .refl _ _⟩ | exact ⟨rfl, (KeptIn.refl _ _).alloc (fun _ h => h) _⟩
theorem callCrash (x : Value) (w : World) : (invoke (.fn (.method "Word") #[]) #[.iface 76 x]).run Tryd.prog w = .ok (.enter 111 #[x]) w := by kernel_rfl

end Go.Proofs.YtlldmebjgidbaaaDoor
