import Derived.Test.YtdbohcdjamhdjaaV1
import Derived.Test.YtdbohcdjamhdjaaChecked
import Derived.Maps.Ext
import Derived.Maps.RangeWalk
import Derived.Lib.Hide
/- Maps by integers whose elements are of any kind that is told by its value: look, store, a new one. -/
set_option linter.unusedVariables false
namespace Go.Proofs.Ytdbohcdjamhdjaa
open Go.RowKit Go.Maps

section
variable {α : Type} {V : α → Value}

open Classical in
/-- How an element reads: as that of which it is the value. -/
noncomputable def mpR (V : α → Value) (v : Value) : Option (DataW α × List MemPlace) :=
  if h : ∃ a : α, v = V a then some (.held h.choose, []) else none
theorem mpR_mk (hV : ∀ a b, V a = V b → a = b) (a : α) : mpR V (V a) = some (.held a, []) := by
  have hh : ∃ a', V a = V a' := ⟨a, rfl⟩
  unfold mpR
  rw [dif_pos hh, ← hV _ _ hh.choose_spec]
theorem mpR_inv {v : Value} {z : DataW α × List MemPlace} (h : mpR V v = some z) : ∃ a, v = V a ∧ z = (.held a, []) := by
  unfold mpR at h
  split at h
  · rename_i hh
    cases h
    exact ⟨hh.choose, hh.choose_spec, rfl⟩
  · cases h

/-- A datum is the map that M says. -/
structure MpSays (D : DataW α) (M : Int → Option α) : Prop where
  has : ∀ x, Maps.has D (.int .i64 x) = (M x).isSome
  at' : ∀ x a, M x = some a → ∀ z, D.atKey (.int .i64 x) z = .held a

/-- Block b is a map of at most N elements: M says which stands at which number. -/
def MpAt (V : α → Value) (b N : Nat) (M : Int → Option α) (w : World) : Prop := ∃ D, w.ownsMap Try.prog 3 (mpR V) b N D ∧ MpSays D M

theorem MpAt.lt {b N : Nat} {M : Int → Option α} {w : World} (h : MpAt V b N M w) : b < w.heap.size := by
  obtain ⟨D, h, _⟩ := h
  exact h.lt
theorem MpAt.mono {b N N' : Nat} {M : Int → Option α} {w : World} (h : MpAt V b N M w) (hN : N ≤ N') : MpAt V b N' M w := by
  obtain ⟨D, h, hs⟩ := h
  exact ⟨D, h.mono hN, hs⟩
theorem mpBlock {H : Type} {P : Program} {k : TypeId} {R : Value → Option (DataW H × List MemPlace)} {w w' : World} {b n : Nat} {D : DataW H} (h : w.ownsMap P k R b n D) (hb : w'.heap[b]? = w.heap[b]?) : w'.ownsMap P k R b n D := by
  obtain ⟨es, clock, h1, h2, h3, h4⟩ := h
  exact ⟨es, clock, hb.trans h1, h2, h3, h4⟩
theorem MpAt.block {b N : Nat} {M : Int → Option α} {w w' : World} (h : MpAt V b N M w) (hb : w'.heap[b]? = w.heap[b]?) : MpAt V b N M w' := by
  obtain ⟨D, h, hs⟩ := h
  exact ⟨D, mpBlock h hb, hs⟩
theorem MpAt.kept {X : Nat → Prop} {b N : Nat} {M : Int → Option α} {w w' : World} (h : MpAt V b N M w) (hk : KeptIn X w w') (hX : X b) : MpAt V b N M w' := h.block (hk.block b hX)
theorem MpAt.ne {b N g : Nat} {M : Int → Option α} {w : World} {cs : Array Value} {T : TypeId} {fr : Nat × Nat} (h : MpAt V b N M w) (hg : w.heap[g]? = some (.cells cs T fr)) : g ≠ b := fun e => by
  obtain ⟨D, ⟨es, clock, h1, _⟩, _⟩ := h
  rw [e, h1] at hg
  cases hg

theorem mpLaw : Keyed Try.prog 3 := int_keyed Try.underlying3
theorem mpSays_empty : MpSays (α := α) (.map []) (fun _ => none) := ⟨fun _ => rfl, fun _ _ h => (by cases h)⟩
/-- What M says behind a store. -/
def mpPut (M : Int → Option α) (x : Int) (a : α) : Int → Option α := fun y => if y = x then some a else M y

theorem mpSays_put {D : DataW α} {M : Int → Option α} (hD : IsMap D) (h : MpSays D M) (x : Int) (a : α) : MpSays (D.put (.int .i64 x) (.held a)) (mpPut M x a) := by
  refine ⟨fun y => ?_, fun y l' hy z => ?_⟩
  · unfold mpPut
    by_cases e : y = x
    · subst e
      rw [Maps.has_put_same hD (show WideAt.IsKeyLit (.int .i64 y) from trivial), if_pos rfl]
      rfl
    · rw [Maps.has_put_other (by simpa using e), h.has, if_neg e]
  · unfold mpPut at hy
    by_cases e : y = x
    · subst e
      rw [if_pos rfl] at hy
      cases hy
      rw [Maps.atKey_put_same hD (show WideAt.IsKeyLit (.int .i64 y) from trivial)]
    · rw [if_neg e] at hy
      rw [Maps.atKey_put_other (by simpa using e)]
      exact h.at' y l' hy z

theorem mpKey {x : Int} (h : (Lit.int .i64 x).wf = true) : keyOf Try.prog 3 (.int .i64 x) = some (.int .i64 x) := keyOf_int_mk Try.underlying3 h

/-- 'v, ok := m[k]' and 'm[k]'. -/
theorem MpAt.look {b N : Nat} {M : Int → Option α} {w : World} (h : MpAt V b N M w) (hV : ∀ a b, V a = V b → a = b) {T te : TypeId} (hT : Try.prog.underlying T = some (.map 3 te)) (z : α) (hz : (zeroValue te).run Try.prog w = .ok (V z) w) (x : Int) (hx : (Lit.int .i64 x).wf = true) :
    (Instr.lookup T (.map (some b)) (.int .i64 x) true).run Try.prog w = .ok (.tuple #[V ((M x).getD z), .bool (M x).isSome]) w ∧
    (Instr.lookup T (.map (some b)) (.int .i64 x) false).run Try.prog w = .ok (V ((M x).getD z)) w := by
  obtain ⟨D, hown, hs⟩ := h
  have hr : mpR V (V z) = some (.held z, []) := mpR_mk hV z
  have hval : ∀ v ps, mpR V v = some (D.atKey (.int .i64 x) (.held z), ps) → v = V ((M x).getD z) := by
    intro v ps hv
    obtain ⟨l, rfl, hz'⟩ := mpR_inv hv
    simp only [Prod.mk.injEq] at hz'
    cases hM : M x with
    | some l' =>
      rw [hs.at' x l' hM] at hz'
      simp only [DataW.held.injEq] at hz'
      rw [← hz'.1]; rfl
    | none =>
      have := hs.has x
      rw [hM] at this
      rw [Maps.atKey_of_not_has this] at hz'
      simp only [DataW.held.injEq] at hz'
      rw [← hz'.1]; rfl
  constructor
  · obtain ⟨v, ps, hrun, hv⟩ := hown.look_ok mpLaw hT hz hr (mpKey hx)
    rw [hrun, hval v ps hv, hs.has]
  · obtain ⟨v, ps, hrun, hv⟩ := hown.lookup mpLaw hT hz hr (mpKey hx)
    rw [hrun, hval v ps hv]

/-- 'm[k] = v'. -/
theorem MpAt.store {b N : Nat} {M : Int → Option α} {w : World} (h : MpAt V b N M w) (hV : ∀ a b, V a = V b → a = b) {T te : TypeId} (hT : Try.prog.underlying T = some (.map 3 te)) (hN : N < maxLen) (x : Int) (hx : (Lit.int .i64 x).wf = true) (a : α) :
    ∃ w', (Instr.mapUpdate T (.map (some b)) (.int .i64 x) (V a)).run Try.prog w = .ok () w' ∧ MpAt V b (N + 1) (mpPut M x a) w' ∧ KeptIn (· ≠ b) w w' ∧ w'.heap.size = w.heap.size := by
  obtain ⟨D, hown, hs⟩ := h
  obtain ⟨w', hrun, hown', es, clock, es', clock', hb, rfl⟩ := hown.store mpLaw hT hN (mpKey hx) (mpR_mk hV a)
  refine ⟨_, hrun, ⟨_, hown', mpSays_put hown.isMap hs x a⟩, ⟨rfl, rfl, rfl, by simp [ChangeMaps.setBlock], fun i hi => ChangeMaps.heap_setBlock_other hb _ hi⟩, by simp [ChangeMaps.setBlock]⟩

theorem MpAt.new (w : World) : MpAt V w.heap.size 0 (fun _ => none) (w.alloc (.map #[] 0)) := ⟨.map [], World.ownsMap_made w _ _ _, mpSays_empty⟩
end

end Go.Proofs.Ytdbohcdjamhdjaa
