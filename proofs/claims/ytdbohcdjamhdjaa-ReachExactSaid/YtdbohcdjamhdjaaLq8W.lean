import Derived.Test.YtdbohcdjamhdjaaV6
/- The reference's look: what stands in the loop over a node's pairs. -/
set_option linter.unusedVariables false
namespace Go.Proofs.Ytdbohcdjamhdjaa
open Go.RowKit

theorem take_snocQ (qs : Pairs) (j : Nat) (h : j < qs.length) : qs.take (j + 1) = qs.take j ++ [(keyAt qs j, valAt qs j)] := by
  rw [List.take_add_one, List.getElem?_eq_getElem h, keyAt_get h, valAt_get h]
  rfl
theorem lk_in {p n : Nat} (h1 : 1 ≤ p) (h2 : p ≤ n) (h3 : n ≤ 511) : decide ((p : Int) < 1) = false ∧ ¬ (p : Int) < 1 ∧ decide ((n : Int) < (p : Int)) = false ∧ ¬ (n : Int) < (p : Int) ∧ ¬ p < 1 ∧ ¬ n < p := by
  refine ⟨decide_eq_false (by omega), by omega, decide_eq_false (by omega), by omega, by omega, by omega⟩

theorem lk_idx {p ix : Nat} (h : ix + 1 = p) (hp : p ≤ 511) : wrap64 ((p : Int) - 1) = (ix : Int) ∧ IntKind.i64.wrap ((p : Int) - 1) = (ix : Int) ∧ (p : Int) - 1 = (ix : Int) := by
  refine ⟨by unfold wrap64; omega, by rw [IntKind.wrap_i64]; omega, by omega⟩

/-- Blocks of pairs that a look leaves as they were. -/
def PrX (w : World) (T : Nat) (qv : Value) (X : Nat → Prop) : Prop := ∀ k, X k → k < w.heap.size ∧ k ≠ T ∧ (∃ cs fr, w.heap[k]? = some (.cells cs 82 fr)) ∧ qv.ownBlock ≠ some k

/-- What stands in the loop over a node's pairs. -/
structure LkF (w : World) (T B0 y ab ao np c2 : Nat) (L : Int) (ps : Pairs) (X : Nat → Prop) (pv qv : Value) (ms : List Int) (qs : Pairs) (V : World) : Prop where
  lk : LkAt V T B0 pv qv ms qs
  leaf : BoxL y L (some ⟨ab, ao, none⟩) np c2 V
  isps : IsPs V (some ⟨ab, ao, none⟩) ps
  low : ab < T
  kept : KeptIn (LkY w T B0) w V
  pk : ∀ k, X k → V.heap[k]? = w.heap[k]?
  pq : ∀ k, X k → qv.ownBlock ≠ some k
theorem LkF.go {w V V' : World} {T B0 y ab ao np c2 : Nat} {L : Int} {ps : Pairs} {X : Nat → Prop} {pv qv pv' qv' : Value} {ms ms' : List Int} {qs qs' : Pairs} (h : LkF w T B0 y ab ao np c2 L ps X pv qv ms qs V) (hk : KeptIn (LkY V T B0) V V') (hl : LkAt V' T B0 pv' qv' ms' qs') (h1 : ∀ k, X k → V'.heap[k]? = V.heap[k]?) (h2 : ∀ k, X k → qv'.ownBlock ≠ some k) : LkF w T B0 y ab ao np c2 L ps X pv' qv' ms' qs' V' :=
  have hT : T < V.heap.size := Nat.lt_of_lt_of_le h.lk.lt h.lk.le
  ⟨hl, h.leaf.kept hk (lky_leaf h.lk h.leaf), psAt h.isps hk (fun p e => by cases e; exact ⟨Nat.lt_trans h.low hT, Nat.ne_of_lt h.low, .inl (Nat.lt_trans h.low h.lk.lt)⟩), h.low, lky_trans h.kept hk, fun k hk => (h1 k hk).trans (h.pk k hk), h2⟩
theorem LkF.old {w V V' : World} {T B0 y ab ao np c2 : Nat} {L : Int} {ps : Pairs} {X : Nat → Prop} {pv qv : Value} {ms : List Int} {qs : Pairs} (h : LkF w T B0 y ab ao np c2 L ps X pv qv ms qs V) (hX : ∀ k, X k → k < w.heap.size) (hk : KeptIn (· < V.heap.size) V V') : LkF w T B0 y ab ao np c2 L ps X pv qv ms qs V' :=
  h.go (lky_old hk) (h.lk.old hk) (fun k h9 => hk.block k (Nat.lt_of_lt_of_le (hX k h9) h.kept.size)) h.pq

theorem lk3_idx {j n j3 : Nat} (h : j < n) (hn : n ≤ 15) (e : j + 1 = j3) : (0 : Int) ≤ (j : Int) ∧ (j : Int) < (n : Int) ∧ wrap64 ((j : Int) + 1) = (j3 : Int) ∧ IntKind.i64.wrap ((j : Int) + 1) = (j3 : Int) ∧ (0 : Int) ≤ (j3 : Int) := by
  refine ⟨by omega, by omega, by unfold wrap64; omega, by rw [IntKind.wrap_i64]; omega, by omega⟩
theorem highOf_next {ps : Pairs} {j j3 hi : Nat} (hr : rises ps = true) (h : j3 < ps.length) (e : j + 1 = j3) : highOf ps j hi + 1 = keyAt ps j3 := by
  subst e
  unfold highOf
  rw [if_pos h]
  have := rises_lt hr (show j < j + 1 by omega) h
  omega
theorem vv_int {v : Nat} (h : 1 ≤ v ∧ v ≤ 511) : (0 : Int) ≤ (v : Int) ∧ (v : Int) ≤ 511 := by omega
theorem lk3_wrap {v : Nat} (h0 : (0 : Int) ≤ (v : Int)) (h1 : (v : Int) ≤ 511) : IntKind.i64.wrap (v : Int) = (v : Int) := by rw [IntKind.wrap_i64]; omega
theorem lk3_zero : IntKind.i64.wrap 0 = 0 := by decide
theorem lk3_lt {j n : Nat} : (j < n → (j : Int) < (n : Int)) ∧ (¬ j < n → ¬ (j : Int) < (n : Int)) := by omega

end Go.Proofs.Ytdbohcdjamhdjaa
