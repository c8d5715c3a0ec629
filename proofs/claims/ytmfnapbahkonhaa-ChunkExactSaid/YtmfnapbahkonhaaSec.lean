/- Sectors: how one lies in memory, how a map's element reads as one; a map of sectors by places. -/
import Derived.Test.YtmfnapbahkonhaaKept
import Derived.Test.YtmfnapbahkonhaaChecked
import Derived.Maps.Ext
import Derived.Maps.RangeWalk
import Derived.Lib.UnsafeStr
import Derived.Lib.BufferWrite
import Derived.Lib.SlKeysI
import Derived.Lib.Hide
set_option linter.unusedVariables false
namespace Go.Proofs.Ytmfnapbahkonhaa
open Go.RowKit Go.Maps

/-- A sector as a value. -/
def secV (l : List UInt8) : Value := .agg (Lib.byteCells l).toArray

theorem byteCells_inj {a b : List UInt8} (h : Lib.byteCells a = Lib.byteCells b) : a = b := by
  induction a generalizing b with
  | nil => cases b with
    | nil => rfl
    | cons y s => simp [Lib.byteCells] at h
  | cons x r ih => cases b with
    | nil => simp [Lib.byteCells] at h
    | cons y s =>
      simp only [Lib.byteCells, List.map_cons, List.cons.injEq, Value.int.injEq, true_and] at h
      rw [ih h.2, UInt8.toNat_inj.1 (show x.toNat = y.toNat by omega)]

theorem secV_inj {a b : List UInt8} (h : secV a = secV b) : a = b := by
  unfold secV at h
  simp only [Value.agg.injEq] at h
  exact byteCells_inj (by simpa using h)

open Classical in
/-- How an element of the map reads: a sector, as its bytes. -/
noncomputable def secR (v : Value) : Option (DataW Unit × List MemPlace) :=
  if h : ∃ l : List UInt8, l.length = 16 ∧ v = secV l then some (.lit (.string h.choose), []) else none

theorem secR_mk {l : List UInt8} (h : l.length = 16) : secR (secV l) = some (.lit (.string l), []) := by
  have hh : ∃ l' : List UInt8, l'.length = 16 ∧ secV l = secV l' := ⟨l, h, rfl⟩
  unfold secR
  rw [dif_pos hh, ← secV_inj hh.choose_spec.2]

theorem secR_inv {v : Value} {z : DataW Unit × List MemPlace} (h : secR v = some z) : ∃ l : List UInt8, l.length = 16 ∧ v = secV l ∧ z = (.lit (.string l), []) := by
  unfold secR at h
  split at h
  · rename_i hh
    cases h
    exact ⟨hh.choose, hh.choose_spec.1, hh.choose_spec.2, rfl⟩
  · cases h

/-- A datum is the map that M says. -/
structure Says (D : DataW Unit) (M : Int → Option (List UInt8)) : Prop where
  has : ∀ x, Maps.has D (.int .i64 x) = (M x).isSome
  at' : ∀ x l, M x = some l → ∀ z, D.atKey (.int .i64 x) z = .lit (.string l)
  len : ∀ x l, M x = some l → l.length = 16

/-- Block b is a map of at most N sectors: M says which lies at which place. -/
def MapAt (b N : Nat) (M : Int → Option (List UInt8)) (w : World) : Prop := ∃ D, w.ownsMap Try.prog 3 secR b N D ∧ Says D M

theorem MapAt.lt {b N : Nat} {M : Int → Option (List UInt8)} {w : World} (h : MapAt b N M w) : b < w.heap.size := by
  obtain ⟨D, h, _⟩ := h
  exact h.lt
theorem MapAt.mono {b N N' : Nat} {M : Int → Option (List UInt8)} {w : World} (h : MapAt b N M w) (hN : N ≤ N') : MapAt b N' M w := by
  obtain ⟨D, h, hs⟩ := h
  exact ⟨D, h.mono hN, hs⟩
theorem ownsMap_block {H : Type} {P : Program} {k : TypeId} {R : Value → Option (DataW H × List MemPlace)} {w w' : World} {b n : Nat} {D : DataW H} (h : w.ownsMap P k R b n D) (hb : w'.heap[b]? = w.heap[b]?) : w'.ownsMap P k R b n D := by
  obtain ⟨es, clock, h1, h2, h3, h4⟩ := h
  exact ⟨es, clock, hb.trans h1, h2, h3, h4⟩
theorem MapAt.block {b N : Nat} {M : Int → Option (List UInt8)} {w w' : World} (h : MapAt b N M w) (hb : w'.heap[b]? = w.heap[b]?) : MapAt b N M w' := by
  obtain ⟨D, h, hs⟩ := h
  exact ⟨D, ownsMap_block h hb, hs⟩
theorem MapAt.kept {X : Nat → Prop} {b N : Nat} {M : Int → Option (List UInt8)} {w w' : World} (h : MapAt b N M w) (hk : KeptIn X w w') (hX : X b) : MapAt b N M w' := h.block (hk.block b hX)

theorem law : Keyed Try.prog 3 := int_keyed Try.underlying3

theorem says_empty : Says (.map []) (fun _ => none) := ⟨fun _ => rfl, fun _ _ h => (by cases h), fun _ _ h => (by cases h)⟩

/-- What M says behind a store. -/
def putAt (M : Int → Option (List UInt8)) (x : Int) (l : List UInt8) : Int → Option (List UInt8) := fun y => if y = x then some l else M y

theorem says_put {D : DataW Unit} {M : Int → Option (List UInt8)} (hD : IsMap D) (h : Says D M) (x : Int) (l : List UInt8) (hl : l.length = 16) : Says (D.put (.int .i64 x) (.lit (.string l))) (putAt M x l) := by
  refine ⟨fun y => ?_, fun y l' hy z => ?_, fun y l' hy => ?_⟩
  · unfold putAt
    by_cases e : y = x
    · subst e
      rw [Maps.has_put_same hD (show WideAt.IsKeyLit (.int .i64 y) from trivial), if_pos rfl]
      rfl
    · rw [Maps.has_put_other (by simpa using e), h.has, if_neg e]
  · unfold putAt at hy
    by_cases e : y = x
    · subst e
      rw [if_pos rfl] at hy
      cases hy
      rw [Maps.atKey_put_same hD (show WideAt.IsKeyLit (.int .i64 y) from trivial)]
    · rw [if_neg e] at hy
      rw [Maps.atKey_put_other (by simpa using e)]
      exact h.at' y l' hy z
  · unfold putAt at hy
    split at hy
    · cases hy; exact hl
    · exact h.len y l' hy

theorem zeroSec (w : World) : (zeroValue 74).run Try.prog w = .ok (secV (List.replicate 16 0)) w := by
  have : (zeroValue 74).run Try.prog w = .ok (.agg #[.int .u8 0, .int .u8 0, .int .u8 0, .int .u8 0, .int .u8 0, .int .u8 0, .int .u8 0, .int .u8 0, .int .u8 0, .int .u8 0, .int .u8 0, .int .u8 0, .int .u8 0, .int .u8 0, .int .u8 0, .int .u8 0]) w := by kernel_rfl
  rw [this]
  rfl

theorem keyI {x : Int} (h : (Lit.int .i64 x).wf = true) : keyOf Try.prog 3 (.int .i64 x) = some (.int .i64 x) := keyOf_int_mk Try.underlying3 h

/-- 'v, ok := m[k]' and 'm[k]'. -/
theorem MapAt.look {b N : Nat} {M : Int → Option (List UInt8)} {w : World} (h : MapAt b N M w) (x : Int) (hx : (Lit.int .i64 x).wf = true) :
    (Instr.lookup 70 (.map (some b)) (.int .i64 x) true).run Try.prog w = .ok (.tuple #[secV ((M x).getD (List.replicate 16 0)), .bool (M x).isSome]) w ∧
    (Instr.lookup 70 (.map (some b)) (.int .i64 x) false).run Try.prog w = .ok (secV ((M x).getD (List.replicate 16 0))) w := by
  obtain ⟨D, hown, hs⟩ := h
  have hz := zeroSec w
  have hr : secR (secV (List.replicate 16 0)) = some (.lit (.string (List.replicate 16 0)), []) := secR_mk (by simp)
  have hval : ∀ v ps, secR v = some (D.atKey (.int .i64 x) (.lit (.string (List.replicate 16 0))), ps) → v = secV ((M x).getD (List.replicate 16 0)) := by
    intro v ps hv
    obtain ⟨l, hl, rfl, hz'⟩ := secR_inv hv
    simp only [Prod.mk.injEq] at hz'
    cases hM : M x with
    | some l' =>
      rw [hs.at' x l' hM] at hz'
      simp only [DataW.lit.injEq, Lit.string.injEq] at hz'
      rw [← hz'.1]; rfl
    | none =>
      have := hs.has x
      rw [hM] at this
      rw [Maps.atKey_of_not_has this] at hz'
      simp only [DataW.lit.injEq, Lit.string.injEq] at hz'
      rw [← hz'.1]; rfl
  constructor
  · obtain ⟨v, ps, hrun, hv⟩ := hown.look_ok law Try.underlying70 hz hr (keyI hx)
    rw [hrun, hval v ps hv, hs.has]
  · obtain ⟨v, ps, hrun, hv⟩ := hown.lookup law Try.underlying70 hz hr (keyI hx)
    rw [hrun, hval v ps hv]

/-- 'm[k] = v'. -/
theorem MapAt.store {b N : Nat} {M : Int → Option (List UInt8)} {w : World} (h : MapAt b N M w) (hN : N < maxLen) (x : Int) (hx : (Lit.int .i64 x).wf = true) (l : List UInt8) (hl : l.length = 16) :
    ∃ w', (Instr.mapUpdate 70 (.map (some b)) (.int .i64 x) (secV l)).run Try.prog w = .ok () w' ∧ MapAt b (N + 1) (putAt M x l) w' ∧ KeptIn (· ≠ b) w w' ∧ w'.heap.size = w.heap.size := by
  obtain ⟨D, hown, hs⟩ := h
  obtain ⟨w', hrun, hown', es, clock, es', clock', hb, rfl⟩ := hown.store law Try.underlying70 hN (keyI hx) (secR_mk hl)
  refine ⟨_, hrun, ⟨_, hown', says_put hown.isMap hs x l hl⟩, ⟨rfl, rfl, rfl, by simp [ChangeMaps.setBlock], fun i hi => ChangeMaps.heap_setBlock_other hb _ hi⟩, by simp [ChangeMaps.setBlock]⟩

/-- 'clear(m)'. -/
theorem MapAt.clear {b N : Nat} {M : Int → Option (List UInt8)} {w : World} (h : MapAt b N M w) (ty : TypeId) :
    ∃ w', (Builtin.clear_ #[70] ty #[.map (some b)]).run Try.prog w = .ok (.tuple #[]) w' ∧ MapAt b 0 (fun _ => none) w' ∧ KeptIn (· ≠ b) w w' ∧ w'.heap.size = w.heap.size := by
  obtain ⟨D, ⟨es, clock, hb, F, hs, hD⟩, hsay⟩ := h
  refine ⟨ChangeMaps.setBlock w b (.map #[] clock), ?_, ⟨.map [], ⟨#[], clock, ChangeMaps.heap_setBlock_same hb _, ⟨by simp, MapKept.stamped_empty clock, by simp⟩, Nat.le_refl _, rfl⟩, says_empty⟩,
    ⟨rfl, rfl, rfl, by simp [ChangeMaps.setBlock], fun i hi => ChangeMaps.heap_setBlock_other hb _ hi⟩, by simp [ChangeMaps.setBlock]⟩
  simp [Builtin.clear_, run_underlying Try.underlying70, MapKept.run_getObj_map hb, MapKept.run_setObj_map _ hb, Result.andThen, ChangeMaps.setBlock]

theorem MapAt.new (w : World) : MapAt w.heap.size 0 (fun _ => none) (w.alloc (.map #[] 0)) := ⟨.map [], World.ownsMap_made w _ _ _, says_empty⟩

end Go.Proofs.Ytmfnapbahkonhaa
