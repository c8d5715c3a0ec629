import Derived.Test.YtlnlgapjlekehaaTv8K
/- TreeMap of layer 8: the reference's look at a tree, in memory. -/
set_option linter.unusedVariables false
namespace Go.Proofs.Ytlnlgapjlekehaa
open Go.RowKit

/-- What a look has brought so far: the pages ms, the pairs qs. -/
structure LkAt (W : World) (T B0 : Nat) (pv qv : Value) (ms : List Int) (qs : Pairs) : Prop where
  box : W.heap[T]? = some (.cells #[pv, qv, .bool false] 53 (0, 0))
  prow : W.ownsRow B0 3 1 pv ms.length (cellsI ms)
  qrow : W.ownsRow B0 38 2 qv qs.length (cellsP qs)
  lt : T < B0
  le : B0 ≤ W.heap.size

/-- What a look leaves as it was: all blocks that there were but its own and those where its rows stand. -/
def LkY (w : World) (T B0 k : Nat) : Prop := k < w.heap.size ∧ k ≠ T ∧ (k < B0 ∨ ∃ cs t fr, w.heap[k]? = some (.cells cs t fr) ∧ t ≠ 3 ∧ t ≠ 38)

theorem LkY.go {w w' : World} {T B0 k : Nat} (h : LkY w T B0 k) (hk : KeptIn (LkY w T B0) w w') : LkY w' T B0 k := by
  refine ⟨Nat.lt_of_lt_of_le h.1 hk.size, h.2.1, ?_⟩
  rcases h.2.2 with h1 | ⟨cs, t, fr, h1, h2⟩
  · exact .inl h1
  · exact .inr ⟨cs, t, fr, (hk.block k h).trans h1, h2⟩
theorem lky_trans {a b c : World} {T B0 : Nat} (h : KeptIn (LkY a T B0) a b) (k : KeptIn (LkY b T B0) b c) : KeptIn (LkY a T B0) a c := h.trans (k.mono fun _ hk => hk.go h)
theorem lky_old {a b : World} {T B0 : Nat} (h : KeptIn (· < a.heap.size) a b) : KeptIn (LkY a T B0) a b := h.mono fun _ hk => hk.1
theorem LkAt.old {W W' : World} {T B0 : Nat} {pv qv : Value} {ms : List Int} {qs : Pairs} (h : LkAt W T B0 pv qv ms qs) (hk : KeptIn (· < W.heap.size) W W') : LkAt W' T B0 pv qv ms qs :=
  ⟨(hk.block T (Nat.lt_of_lt_of_le h.lt h.le)).trans h.box, rowS_block h.prow fun g e => hk.block g (rowS_lt h.prow g e).2, rowS_block h.qrow fun g e => hk.block g (rowS_lt h.qrow g e).2, h.lt, Nat.le_trans h.le hk.size⟩
theorem lk_sh {V V' : World} {s room T B0 : Nat} {N : List Nd} {D : Nat → Prop} {pv qv : Value} {ms : List Int} {qs : Pairs} (h : LkAt V T B0 pv qv ms qs) (hsh : IsSh V s room N D) (hD : ∀ k, D k → k < T) (hk : KeptIn (LkY V T B0) V V') : IsSh V' s room N D :=
  hsh.kept (hk.mono fun k hk => ⟨hsh.lt k hk, Nat.ne_of_lt (hD k hk), .inl (by have := hD k hk; have := h.lt; omega)⟩)
theorem lky_leaf {x n cap T B0 : Nat} {pv qv : Value} {ms : List Int} {qs : Pairs} {lv : Int} {a : Option Addr} {V : World} (h : LkAt V T B0 pv qv ms qs) (hb : BoxL x lv a n cap V) : LkY V T B0 x :=
  ⟨hb.lt, fun e => by subst e; have := Eq.trans hb.symm h.box; simp at this, .inr ⟨_, _, _, hb, by decide, by decide⟩⟩

theorem LkAt.c0 {W : World} {T B0 : Nat} {pv qv : Value} {ms : List Int} {qs : Pairs} (h : LkAt W T B0 pv qv ms qs) : W.cell? ⟨T, 0, none⟩ = some pv := (cell_of_row _ _ 0 _ _ _ h.box).trans rfl
theorem LkAt.c1 {W : World} {T B0 : Nat} {pv qv : Value} {ms : List Int} {qs : Pairs} (h : LkAt W T B0 pv qv ms qs) : W.cell? ⟨T, 1, none⟩ = some qv := (cell_of_row _ _ 1 _ _ _ h.box).trans rfl
theorem LkAt.c2 {W : World} {T B0 : Nat} {pv qv : Value} {ms : List Int} {qs : Pairs} (h : LkAt W T B0 pv qv ms qs) : W.cell? ⟨T, 2, none⟩ = some (.bool false) := (cell_of_row _ _ 2 _ _ _ h.box).trans rfl
theorem LkAt.fr {W : World} {T B0 : Nat} {pv qv : Value} {ms : List Int} {qs : Pairs} (h : LkAt W T B0 pv qv ms qs) (i : Nat) : W.frozen? ⟨T, i, none⟩ = false := by
  simp [World.frozen?, h.box]

/-- A look begins. -/
theorem LkAt.start (w : World) : LkAt (w.alloc (.cells #[.slice none 0 0, .slice none 0 0, .bool false] 53)) w.heap.size (w.heap.size + 1) (.slice none 0 0) (.slice none 0 0) [] [] :=
  ⟨heap_alloc_new w _, World.ownsRow_nil _ _ _ _, World.ownsRow_nil _ _ _ _, Nat.lt_succ_self _, by simp⟩

/-- The row that grows is v's, the box's cell i turns. -/
theorem lk_kept {V w1 : World} {T i : Nat} {v u : Value} {o : Obj} (hg : (V.alloc o).grownBy w1 v.ownBlock) : KeptIn (SdX V T v) V (w1.setCell ⟨T, i, none⟩ u) :=
  ((grow_kept hg).mono (fun k h => ⟨h.1, h.2.2⟩)).setCell (p := ⟨T, i, none⟩) (fun h => h.2.1 rfl) _
theorem sdx_p {V : World} {T B0 k : Nat} {pv qv : Value} {ms : List Int} {qs : Pairs} (h : LkAt V T B0 pv qv ms qs) (hk : LkY V T B0 k) : SdX V T pv k := by
  refine ⟨hk.1, hk.2.1, fun e => ?_⟩
  rcases hk.2.2 with h1 | ⟨cs, t, fr, h1, h2⟩
  · have := (rowS_lt h.prow k e).1
    omega
  · exact rowS_ne h.prow h1 h2.1 e
theorem sdx_q {V : World} {T B0 k : Nat} {pv qv : Value} {ms : List Int} {qs : Pairs} (h : LkAt V T B0 pv qv ms qs) (hk : LkY V T B0 k) : SdX V T qv k := by
  refine ⟨hk.1, hk.2.1, fun e => ?_⟩
  rcases hk.2.2 with h1 | ⟨cs, t, fr, h1, h2⟩
  · have := (rowS_lt h.qrow k e).1
    omega
  · exact rowS_ne h.qrow h1 h2.2 e

theorem lk_page {V w1 : World} {T B0 m : Nat} {p : Int} {pv qv v' : Value} {ms : List Int} {qs : Pairs} {o : Obj} (h : LkAt V T B0 pv qv ms qs) (hm : ms.length = m) (hg : (V.alloc o).grownBy w1 pv.ownBlock)
    (hown : w1.ownsRow B0 3 1 v' (m + 1) (cellsI ms ++ [.int .i64 p])) :
    (w1.cell? ⟨T, 0, none⟩ = some pv ∧ w1.frozen? ⟨T, 0, none⟩ = false) ∧ LkAt (w1.setCell ⟨T, 0, none⟩ v') T B0 v' qv (ms ++ [p]) qs ∧ KeptIn (LkY V T B0) V (w1.setCell ⟨T, 0, none⟩ v') := by
  have hTV : T < V.heap.size := Nat.lt_of_lt_of_le h.lt h.le
  have hk1 := grow_kept hg
  have hT1 : w1.heap[T]? = V.heap[T]? := hk1.block T ⟨hTV, rowS_ne h.prow h.box (by decide)⟩
  have hb1 := hT1.trans h.box
  have hk2 : KeptIn (· ≠ T) w1 (w1.setCell ⟨T, 0, none⟩ v') := (KeptIn.refl _ w1).setCell (p := ⟨T, 0, none⟩) (by simp) _
  have hk := lk_kept (T := T) (i := 0) (u := v') hg
  refine ⟨⟨(cell_of_row _ _ 0 _ _ _ hb1).trans rfl, by simp [World.frozen?, hb1]⟩, ⟨?_, ?_, ?_, h.lt, Nat.le_trans h.le hk.size⟩, hk.mono fun k hk => sdx_p h hk⟩
  · exact (heap_setCell_same _ _ _ _ _ _ hb1).trans rfl
  · rw [List.length_append, hm]
    have : cellsI (ms ++ [p]) = cellsI ms ++ [.int .i64 p] := by simp [cellsI]
    rw [this]
    exact rowS_block hown fun g e => hk2.block g fun e2 => by
      have := (rowS_lt hown g e).1
      have := h.lt
      omega
  · refine rowS_block h.qrow fun g e => hk.block g ⟨(rowS_lt h.qrow g e).2, fun e2 => ?_, ?_⟩
    · have := (rowS_lt h.qrow g e).1
      have := h.lt
      omega
    · obtain ⟨cs, fr, ht⟩ := own_type h.qrow e
      exact rowS_ne h.prow ht (by decide)

theorem lk_pair {V w1 : World} {T B0 n k x : Nat} {pv qv v' : Value} {ms : List Int} {qs : Pairs} {o : Obj} (h : LkAt V T B0 pv qv ms qs) (hn : qs.length = n) (hg : (V.alloc o).grownBy w1 qv.ownBlock)
    (hown : w1.ownsRow B0 38 2 v' (n + 1) (cellsP qs ++ [.int .u64 (k : Int), .int .u64 (x : Int)])) :
    (w1.cell? ⟨T, 1, none⟩ = some qv ∧ w1.frozen? ⟨T, 1, none⟩ = false) ∧ LkAt (w1.setCell ⟨T, 1, none⟩ v') T B0 pv v' ms (qs ++ [(k, x)]) ∧ KeptIn (LkY V T B0) V (w1.setCell ⟨T, 1, none⟩ v') := by
  have hTV : T < V.heap.size := Nat.lt_of_lt_of_le h.lt h.le
  have hk1 := grow_kept hg
  have hT1 : w1.heap[T]? = V.heap[T]? := hk1.block T ⟨hTV, rowS_ne h.qrow h.box (by decide)⟩
  have hb1 := hT1.trans h.box
  have hk2 : KeptIn (· ≠ T) w1 (w1.setCell ⟨T, 1, none⟩ v') := (KeptIn.refl _ w1).setCell (p := ⟨T, 1, none⟩) (by simp) _
  have hk := lk_kept (T := T) (i := 1) (u := v') hg
  refine ⟨⟨(cell_of_row _ _ 1 _ _ _ hb1).trans rfl, by simp [World.frozen?, hb1]⟩, ⟨?_, ?_, ?_, h.lt, Nat.le_trans h.le hk.size⟩, hk.mono fun k hk => sdx_q h hk⟩
  · exact (heap_setCell_same _ _ _ _ _ _ hb1).trans rfl
  · refine rowS_block h.prow fun g e => hk.block g ⟨(rowS_lt h.prow g e).2, fun e2 => ?_, ?_⟩
    · have := (rowS_lt h.prow g e).1
      have := h.lt
      omega
    · obtain ⟨cs, fr, ht⟩ := own_type h.prow e
      exact rowS_ne h.qrow ht (by decide)
  · rw [List.length_append, hn, cellsP_append]
    exact rowS_block hown fun g e => hk2.block g fun e2 => by
      have := (rowS_lt hown g e).1
      have := h.lt
      omega

end Go.Proofs.Ytlnlgapjlekehaa
