/- Places: lists of them in memory; whether a list may be where chunks are. -/
import Derived.Test.YtdbanlifneomgaaPd14
import Derived.Test.YtdbanlifneomgaaRow5
set_option linter.unusedVariables false
namespace Go.Proofs.Ytdbanlifneomgaa
open Go.RowKit

theorem infoPla : (Try.prog.info? 47).map (fun i => (i.zero, i.size, i.bytes)) = some (some (.agg #[.int .i64 0, .int .i64 0, .int .i64 0]), 3, 24) := by kernel_rfl
/-- The cells of places. -/
def cellsL : List Pla → List Value
  | [] => []
  | v :: r => .int .i64 v.ch :: .int .i64 v.tier :: .int .i64 v.slot :: cellsL r
theorem cellsL_append (a b : List Pla) : cellsL (a ++ b) = cellsL a ++ cellsL b := by
  induction a with
  | nil => rfl
  | cons v r ih => rw [List.cons_append, cellsL, ih, cellsL]; rfl
theorem cellsL_length (a : List Pla) : (cellsL a).length = a.length * 3 := by
  induction a with
  | nil => rfl
  | cons v r ih => simp only [cellsL, List.length_cons, ih]; omega
theorem cellsL_at (vs : List Pla) : ∀ i (h : i < vs.length), (cellsL vs)[i * 3]? = some (.int .i64 vs[i].ch) ∧ (cellsL vs)[i * 3 + 1]? = some (.int .i64 vs[i].tier) ∧ (cellsL vs)[i * 3 + 2]? = some (.int .i64 vs[i].slot) := by
  induction vs with
  | nil => intro i h; cases h
  | cons v r ih =>
    intro i h
    cases i with
    | zero => exact ⟨rfl, rfl, rfl⟩
    | succ i =>
      have := ih i (by simpa using h)
      rw [show (i + 1) * 3 = i * 3 + 1 + 1 + 1 by omega]
      exact this

/-- Places in memory. -/
structure IsLs (W : World) (a : Option Addr) (vs : List Pla) : Prop where
  len : vs.length ≤ maxLen
  cells : 0 < vs.length → ∃ b off, a = some ⟨b, off, none⟩ ∧ b < W.heap.size ∧ ∀ i (h : i < vs.length), W.cell? ⟨b, off + i * 3, none⟩ = some (.int .i64 vs[i].ch) ∧ W.cell? ⟨b, off + i * 3 + 1, none⟩ = some (.int .i64 vs[i].tier) ∧ W.cell? ⟨b, off + i * 3 + 2, none⟩ = some (.int .i64 vs[i].slot)
theorem lsAt {X : Nat → Prop} {W W' : World} {a : Option Addr} {vs : List Pla} (h : IsLs W a vs) (hk : KeptIn X W W') (hX : ∀ p, a = some p → p.block < W.heap.size → X p.block) : IsLs W' a vs :=
  ⟨h.len, fun hp => by
    obtain ⟨b, off, e, hb, hc⟩ := h.cells hp
    have hb' := hk.block b (hX _ e hb)
    refine ⟨b, off, e, Nat.lt_of_lt_of_le hb hk.size, fun i hi => ?_⟩
    obtain ⟨h1, h2, h3⟩ := hc i hi
    exact ⟨(World.cell?_of_block (a := ⟨b, off + i * 3, none⟩) hb').trans h1, (World.cell?_of_block (a := ⟨b, off + i * 3 + 1, none⟩) hb').trans h2, (World.cell?_of_block (a := ⟨b, off + i * 3 + 2, none⟩) hb').trans h3⟩⟩
theorem IsLs.old {W W' : World} {a : Option Addr} {vs : List Pla} (h : IsLs W a vs) (hk : KeptIn (· < W.heap.size) W W') : IsLs W' a vs := lsAt h hk fun p _ hp => hp
theorem row_IsLs {W : World} {B cap : Nat} {a : Option Addr} {vs : List Pla} (h : W.ownsRow B 47 3 (.slice a vs.length cap) vs.length (cellsL vs)) : IsLs W a vs := by
  rcases h.2 with ⟨e, h0⟩ | ⟨g, cap', cur, e, hg, hb, hc, hm, hs, ht⟩
  · exact ⟨by rw [h0]; exact Nat.zero_le _, fun hp => by omega⟩
  · simp only [Value.slice.injEq, true_and] at e
    refine ⟨Nat.le_trans hc hm, fun _ => ⟨g, 0, e.1, (Array.getElem?_eq_some_iff.1 hb).1, fun i hi => ?_⟩⟩
    obtain ⟨h1, h2, h3⟩ := cellsL_at vs i hi
    rw [← ht, List.getElem?_take_of_lt (by omega)] at h1 h2 h3
    rw [Nat.zero_add, cell_of_row _ _ _ _ _ _ hb, cell_of_row _ _ _ _ _ _ hb, cell_of_row _ _ _ _ _ _ hb]
    exact ⟨by simpa using h1, by simpa using h2, by simpa using h3⟩
theorem row_sliceL {W : World} {B n : Nat} {v : Value} {xs : List Value} (h : W.ownsRow B 47 3 v n xs) : ∃ a cap, v = .slice a n cap := by
  rcases h.2 with ⟨rfl, rfl⟩ | ⟨g1, cap1, cur, rfl, _⟩
  · exact ⟨none, 0, rfl⟩
  · exact ⟨_, _, rfl⟩

/-- How many slots a tier has. -/
def slotsOf (s0 s1 : Int) (t : Int) : Int := if t = 0 then s0 else s1
/-- What is asked of the place number i. -/
def OkAt (vs : List Pla) (s0 s1 : Int) (i : Nat) : Prop :=
  GoodP (vs.getD i pla0) ∧ (vs.getD i pla0).slot < slotsOf s0 s1 (vs.getD i pla0).tier ∧ (0 < i → (vs.getD (i - 1) pla0).ch < (vs.getD i pla0).ch) ∧
    ∀ k, k < i → ¬ ((vs.getD k pla0).tier = (vs.getD i pla0).tier ∧ (vs.getD k pla0).slot = (vs.getD i pla0).slot)
/-- A list that may be where chunks are. -/
instance (vs : List Pla) (s0 s1 : Int) (i : Nat) : Decidable (OkAt vs s0 s1 i) := by unfold OkAt; infer_instance
def okL (vs : List Pla) (s0 s1 : Int) : Bool := decide (∀ i, i < vs.length → OkAt vs s0 s1 i)
theorem okL_iff {vs : List Pla} {s0 s1 : Int} : okL vs s0 s1 = true ↔ ∀ i, i < vs.length → OkAt vs s0 s1 i := by
  unfold okL
  exact decide_eq_true_iff
theorem okL_no {vs : List Pla} {s0 s1 : Int} {i : Nat} (hi : i < vs.length) (h : ¬ OkAt vs s0 s1 i) : okL vs s0 s1 = false := by
  cases e : okL vs s0 s1 with
  | false => rfl
  | true => exact absurd (okL_iff.1 e i hi) h

end Go.Proofs.Ytdbanlifneomgaa
