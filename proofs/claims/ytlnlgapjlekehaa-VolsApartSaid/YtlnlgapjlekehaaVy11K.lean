import Derived.Test.YtlnlgapjlekehaaVx11K
import Derived.Test.YtlnlgapjlekehaaAw11K
/- VolsApart of layer 11: the array that holds the volumes; what stands in the loop. -/
set_option linter.unusedVariables false
namespace Go.Proofs.Ytlnlgapjlekehaa
open Go.RowKit

/-- The array at block u. -/
def RowA (u : Nat) (A : List Vol) (W : World) : Prop := W.heap[u]? = some (.cells (cellsV A).toArray 79 (0, 0))
theorem RowA.lt {u : Nat} {A : List Vol} {W : World} (h : RowA u A W) : u < W.heap.size := (Array.getElem?_eq_some_iff.1 h).1
theorem RowA.fr {u : Nat} {A : List Vol} {W : World} (h : RowA u A W) (i : Nat) : W.frozen? ⟨u, i, none⟩ = false := by simp [World.frozen?, show W.heap[u]? = _ from h]
theorem RowA.at {u : Nat} {A : List Vol} {W : World} (h : RowA u A W) (i : Nat) : W.cell? ⟨u, i, none⟩ = (cellsV A)[i]? := by
  rw [cell_of_row _ _ _ _ _ _ h]
  simp
theorem RowA.cells {u : Nat} {A : List Vol} {W : World} (h : RowA u A W) {i : Nat} (hi : i < A.length) :
    W.cell? ⟨u, i * 5, none⟩ = some (.int .i64 (atV A i).id) ∧ W.cell? ⟨u, i * 5 + 1, none⟩ = some (.int .i64 (atV A i).size) ∧ W.cell? ⟨u, i * 5 + 2, none⟩ = some (.int .i64 (atV A i).root) ∧ W.cell? ⟨u, i * 5 + 3, none⟩ = some (.bool (atV A i).pin) ∧ W.cell? ⟨u, i * 5 + 4, none⟩ = some (.int .i64 (atV A i).frm) := by
  obtain ⟨h1, h2, h3, h4, h5⟩ := cellsV_at A i hi
  have e : atV A i = A[i] := by
    unfold atV
    rw [List.getD_eq_getElem?_getD, List.getElem?_eq_getElem hi]
    rfl
  rw [e]
  exact ⟨(h.at _).trans h1, (h.at _).trans h2, (h.at _).trans h3, (h.at _).trans h4, (h.at _).trans h5⟩

theorem cellsV_set (v : Vol) : ∀ (A : List Vol) (i : Nat), i < A.length → cellsV (A.set i v) = (((((cellsV A).set (i * 5) (.int .i64 v.id)).set (i * 5 + 1) (.int .i64 v.size)).set (i * 5 + 2) (.int .i64 v.root)).set (i * 5 + 3) (.bool v.pin)).set (i * 5 + 4) (.int .i64 v.frm) := by
  intro A
  induction A with
  | nil => intro i h; cases h
  | cons a r ih =>
    intro i h
    cases i with
    | zero => rfl
    | succ i =>
      have e := ih i (by simpa using h)
      rw [List.set_cons_succ, cellsV, cellsV, e]
      rw [show (i + 1) * 5 = i * 5 + 1 + 1 + 1 + 1 + 1 by omega, show i * 5 + 1 + 1 + 1 + 1 + 1 + 1 = i * 5 + 1 + 1 + 1 + 1 + 1 + 1 from rfl]
      rfl
theorem RowA.set {u : Nat} {A : List Vol} {W : World} (h : RowA u A W) {i : Nat} (hi : i < A.length) (v : Vol) :
    RowA u (A.set i v) (((((W.setCell ⟨u, i * 5, none⟩ (.int .i64 v.id)).setCell ⟨u, i * 5 + 1, none⟩ (.int .i64 v.size)).setCell ⟨u, i * 5 + 2, none⟩ (.int .i64 v.root)).setCell ⟨u, i * 5 + 3, none⟩ (.bool v.pin)).setCell ⟨u, i * 5 + 4, none⟩ (.int .i64 v.frm)) := by
  have h1 := Go.heap_setCell_same _ _ (i * 5) _ _ (.int .i64 v.id) h
  have h2 := Go.heap_setCell_same _ _ (i * 5 + 1) _ _ (.int .i64 v.size) h1
  have h3 := Go.heap_setCell_same _ _ (i * 5 + 2) _ _ (.int .i64 v.root) h2
  have h4 := Go.heap_setCell_same _ _ (i * 5 + 3) _ _ (.bool v.pin) h3
  have h5 := Go.heap_setCell_same _ _ (i * 5 + 4) _ _ (.int .i64 v.frm) h4
  unfold RowA
  rw [h5, cellsV_set v A i hi]
  simp only [List.setIfInBounds_toArray]

/-- No cell of the array is a number of 64 bits without a sign, or a slice. -/
theorem cellsV_kind (A : List Vol) : ∀ x ∈ cellsV A, (∃ n, x = .int .i64 n) ∨ ∃ b, x = .bool b := by
  induction A with
  | nil => intro x h; cases h
  | cons a r ih =>
    intro x h
    simp only [cellsV, List.mem_cons] at h
    rcases h with rfl | rfl | rfl | rfl | rfl | h
    · exact .inl ⟨_, rfl⟩
    · exact .inl ⟨_, rfl⟩
    · exact .inl ⟨_, rfl⟩
    · exact .inr ⟨_, rfl⟩
    · exact .inl ⟨_, rfl⟩
    · exact ih x h
theorem RowA.no_u64 {u i : Nat} {A : List Vol} {W : World} (h : RowA u A W) {n : Int} (e : W.cell? ⟨u, i, none⟩ = some (.int .u64 n)) : False := by
  rw [h.at] at e
  rcases cellsV_kind A _ (List.mem_of_getElem? e) with ⟨m, h⟩ | ⟨b, h⟩ <;> cases h
theorem RowA.no_slice {u i : Nat} {A : List Vol} {W : World} (h : RowA u A W) {a : Option Addr} {n c : Nat} (e : W.cell? ⟨u, i, none⟩ = some (.slice a n c)) : False := by
  rw [h.at] at e
  rcases cellsV_kind A _ (List.mem_of_getElem? e) with ⟨m, h⟩ | ⟨b, h⟩ <;> cases h

/-- The Shelf is not made of the array. -/
theorem IsSh.but {W : World} {s room u : Nat} {N : List Nd} {D : Nat → Prop} {A : List Vol} (h : IsSh W s room N D) (hu : RowA u A W) : IsSh W s room N (fun k => D k ∧ k ≠ u) := by
  obtain ⟨la, cap, h1, h0, h2⟩ := h.mem
  have hsu : s ≠ u := by
    rintro rfl
    have := h1.symm.trans hu
    simp at this
  refine ⟨⟨h.ds, hsu⟩, fun k hk => h.lt k hk.1, h.len, h.rm, h.pos, la, cap, h1, h0, fun hp => ?_⟩
  obtain ⟨b, e, hb, hne, hc, hm, hi⟩ := h2 hp
  refine ⟨b, e, ⟨hb, ?_⟩, hne, hc, hm, fun i hl => ?_⟩
  · rintro rfl
    obtain ⟨a, cp, e1, e2, _⟩ := hi 0 hp
    exact hu.no_slice e2
  · obtain ⟨a, cp, e1, e2, e3, e4⟩ := hi i hl
    refine ⟨a, cp, e1, e2, e3, fun p ep => ⟨⟨(e4 p ep).1, ?_⟩, (e4 p ep).2⟩⟩
    rintro rfl
    obtain ⟨b', off, eb, hb', hc'⟩ := e3.cells (h.pos i hl).1
    rw [ep] at eb
    cases eb
    exact hu.no_u64 (hc' 0 (h.pos i hl).1).1
theorem TrN.store {w3 W W' : World} {s room root f u : Nat} {qs : Pairs} {N : List Nd} {A : List Vol} (h : TrN w3 s room root qs f N W) (hu : RowA u A W) (hw : w3.heap.size ≤ u) (hk : KeptIn (· ≠ u) W W') : TrN w3 s room root qs f N W' := by
  obtain ⟨D, h1, h2, h3, h4, h5⟩ := h
  have h6 := h1.but hu
  exact ⟨_, h6.kept (hk.mono fun k hk => hk.2), h2, h3, fun k hk => h4 k hk.1, h5.trans (hk.mono fun k hk => by omega)⟩
theorem RowA.kept {u : Nat} {A : List Vol} {W W' : World} (h : RowA u A W) (e : W'.heap[u]? = W.heap[u]?) : RowA u A W' := e.trans h

/-- What stands in VolsApart's loop. -/
structure Va (w3 : World) (s u j root : Nat) (A : List Vol) (N : List Nd) (W : World) : Prop where
  tr : TrN w3 s 511 root (prs A) (8 + j) N W
  nl : N.length ≤ 5 * j
  row : RowA u A W
  ok : OkA A
  su : s < u
  wu : w3.heap.size ≤ u
theorem Va.old {w3 W W' : World} {s u j root : Nat} {A : List Vol} {N : List Nd} (h : Va w3 s u j root A N W) (hk : KeptIn (· < W.heap.size) W W') : Va w3 s u j root A N W' :=
  ⟨h.tr.old hk, h.nl, h.row.kept (hk.block u h.row.lt), h.ok, h.su, h.wu⟩
theorem Va.mono {w3 W : World} {s u j root : Nat} {A : List Vol} {N : List Nd} (h : Va w3 s u j root A N W) : Va w3 s u (j + 1) root A N W := by
  obtain ⟨⟨D, h1, h2, h3⟩, h4, h5, h6, h7, h8⟩ := h
  exact ⟨⟨D, h1, h2.mono (by omega), h3⟩, by omega, h5, h6, h7, h8⟩

theorem tn_new2 (w : World) (room : Nat) (hr : room ≤ 1000000) (W : World) (hW : W = w.alloc (.cells #[.slice none 0 0, .int .i64 (room : Int)] 28)) : TrN w w.heap.size room 0 [] 8 [] W :=
  ⟨_, (tm_new w room hr W hW).1, TrI.zero, by simp, fun k hk => Nat.le_of_eq hk.symm, by rw [hW]; exact (KeptIn.refl _ w).alloc (fun _ h => h) _⟩

theorem okA_zero : OkA (List.replicate 17 vol0) := by
  refine ⟨rfl, fun i h1 h2 h3 => ?_⟩
  have : atV (List.replicate 17 vol0) i = vol0 := by
    unfold atV
    rw [List.getD_eq_getElem?_getD, List.getElem?_replicate, if_pos (by omega)]
    rfl
  rw [this] at h3
  have : (0 : Int) = (i : Int) := h3
  omega
theorem prs_zero : prs (List.replicate 17 vol0) = [] := by decide

end Go.Proofs.Ytlnlgapjlekehaa
