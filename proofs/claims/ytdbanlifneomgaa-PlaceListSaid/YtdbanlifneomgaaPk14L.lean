import Derived.Test.YtdbanlifneomgaaM4
import Derived.Deep.AppendLies
/- PlaceExact of layer 14: two rows that grow side by side; the law's boxes. -/
set_option linter.unusedVariables false
namespace Go.Proofs.Ytdbanlifneomgaa
open Go.RowKit

theorem infoInt14 : (Try.prog.info? 3).map (fun i => (i.zero, i.size, i.bytes)) = some (some (.int .i64 0), 1, 8) := by kernel_rfl
theorem infoSpot14 : (Try.prog.info? 45).map (fun i => (i.zero, i.size, i.bytes)) = some (some (.agg #[.int .i64 0, .int .i64 0]), 2, 16) := by kernel_rfl
/-- The cells of places' chunks; of places' spots. -/
def cellsK (l : List Pla) : List Value := l.flatMap fun x => [.int .i64 x.ch]
def cellsS (l : List Pla) : List Value := l.flatMap fun x => [.int .i64 x.tier, .int .i64 x.slot]
theorem cellsK_snoc (l : List Pla) (x : Pla) : cellsK (l ++ [x]) = cellsK l ++ [.int .i64 x.ch] := by simp [cellsK]
theorem cellsS_snoc (l : List Pla) (x : Pla) : cellsS (l ++ [x]) = cellsS l ++ [.int .i64 x.tier, .int .i64 x.slot] := by simp [cellsS]
theorem cellsK_at (l : List Pla) : ∀ i, i < l.length → (cellsK l)[i]? = some (.int .i64 (l.getD i pla0).ch) := by
  induction l with
  | nil => intro i h; cases h
  | cons x r ih =>
    intro i h
    cases i with
    | zero => rfl
    | succ i => exact ih i (by simpa using h)
theorem cellsS_at (l : List Pla) : ∀ i, i < l.length → (cellsS l)[i * 2]? = some (.int .i64 (l.getD i pla0).tier) ∧ (cellsS l)[i * 2 + 1]? = some (.int .i64 (l.getD i pla0).slot) := by
  induction l with
  | nil => intro i h; cases h
  | cons x r ih =>
    intro i h
    cases i with
    | zero => exact ⟨rfl, rfl⟩
    | succ i =>
      have := ih i (by simpa using h)
      rw [show (i + 1) * 2 = i * 2 + 1 + 1 by omega]
      exact this

theorem own_type14 {w : World} {B n s : Nat} {T : TypeId} {v : Value} {xs : List Value} (h : w.ownsRow B T s v n xs) {g : Nat} (e : v.ownBlock = some g) : ∃ cs fr, w.heap[g]? = some (.cells cs T fr) := by
  rcases h.2 with ⟨rfl, _⟩ | ⟨g', cap, cur, rfl, hg, hb, _⟩
  · cases e
  · simp only [Value.ownBlock, Option.some.injEq] at e
    subst e
    exact ⟨cur, _, hb⟩
theorem grow_kept14 {V w1 : World} {v : Value} {o : Obj} (hg : (V.alloc o).grownBy w1 v.ownBlock) : KeptIn (fun k => k < V.heap.size ∧ v.ownBlock ≠ some k) V w1 :=
  ((KeptIn.refl _ V).alloc (fun _ h => h.1) _).grown (fun k h => h.1) hg (fun g e h => h.2 e)


/-- Two rows, made since block B. -/
structure Ge2 (w3 : World) (B : Nat) (l1 l2 : List Pla) (v1 v2 : Value) (W : World) : Prop where
  r1 : W.ownsRow B 3 1 v1 l1.length (cellsK l1)
  r2 : W.ownsRow B 45 2 v2 l2.length (cellsS l2)
  kept : KeptIn (· < B) w3 W
  hB : w3.heap.size = B
theorem Ge2.le {w3 W : World} {B : Nat} {l1 l2 : List Pla} {v1 v2 : Value} (h : Ge2 w3 B l1 l2 v1 v2 W) : B ≤ W.heap.size := by
  have := h.kept.size
  rw [h.hB] at this
  exact this
theorem Ge2.push1 {w3 W w1 : World} {B : Nat} {l1 l2 : List Pla} {v1 v2 v' : Value} {x : Pla} {o : Obj} (h : Ge2 w3 B l1 l2 v1 v2 W) (hg : (W.alloc o).grownBy w1 v1.ownBlock)
    (hown : w1.ownsRow B 3 1 v' (l1.length + 1) (cellsK l1 ++ [.int .i64 x.ch])) : Ge2 w3 B (l1 ++ [x]) l2 v' v2 w1 := by
  have hk := grow_kept14 hg
  refine ⟨by rw [List.length_append, cellsK_snoc]; exact hown, rowS_block h.r2 fun k e => hk.block k ⟨(rowS_lt h.r2 k e).2, ?_⟩, h.kept.trans (hk.mono fun k hk' => ⟨Nat.lt_of_lt_of_le hk' h.le, fun e => absurd (rowS_lt h.r1 k e).1 (Nat.not_le.2 hk')⟩), h.hB⟩
  obtain ⟨cs, fr, hc⟩ := own_type14 h.r2 e
  exact rowS_ne h.r1 hc (by decide)
theorem Ge2.push2 {w3 W w1 : World} {B : Nat} {l1 l2 : List Pla} {v1 v2 v' : Value} {x : Pla} {o : Obj} (h : Ge2 w3 B l1 l2 v1 v2 W) (hg : (W.alloc o).grownBy w1 v2.ownBlock)
    (hown : w1.ownsRow B 45 2 v' (l2.length + 1) (cellsS l2 ++ [.int .i64 x.tier, .int .i64 x.slot])) : Ge2 w3 B l1 (l2 ++ [x]) v1 v' w1 := by
  have hk := grow_kept14 hg
  refine ⟨rowS_block h.r1 fun k e => hk.block k ⟨(rowS_lt h.r1 k e).2, ?_⟩, by rw [List.length_append, cellsS_snoc]; exact hown, h.kept.trans (hk.mono fun k hk' => ⟨Nat.lt_of_lt_of_le hk' h.le, fun e => absurd (rowS_lt h.r2 k e).1 (Nat.not_le.2 hk')⟩), h.hB⟩
  obtain ⟨cs, fr, hc⟩ := own_type14 h.r1 e
  exact rowS_ne h.r2 hc (by decide)
theorem ge2_zero (w3 : World) (B : Nat) (hB : w3.heap.size = B) (W : World) (hW : W = (w3.alloc (.cells #[] 3)).alloc (.cells #[] 45)) : Ge2 w3 B [] [] (.slice (some ⟨B, 0, none⟩) 0 0) (.slice (some ⟨B + 1, 0, none⟩) 0 0) W := by
  have h1 : W.heap[B]? = some (.cells #[] 3 (0, 0)) := by
    rw [hW]
    refine (Lib.alloc_old _ _ _ (by rw [World.size_alloc]; omega)).trans ?_
    rw [← hB]
    exact heap_alloc_new w3 _
  have h2 : W.heap[B + 1]? = some (.cells #[] 45 (0, 0)) := by
    have := heap_alloc_new (w3.alloc (.cells #[] 3)) (.cells #[] 45)
    rw [World.size_alloc, hB] at this
    rw [hW]
    exact this
  refine ⟨⟨rfl, .inr ⟨B, 0, _, rfl, Nat.le_refl _, h1, Nat.le_refl _, by decide, rfl, rfl⟩⟩, ⟨rfl, .inr ⟨B + 1, 0, _, rfl, Nat.le_succ _, h2, Nat.le_refl _, by decide, rfl, rfl⟩⟩, ?_, hB⟩
  rw [hW]
  exact ((KeptIn.refl _ w3).alloc (fun k (h : k < B) => by omega) _).alloc (fun k (h : k < B) => by omega) _
theorem Ge2.cs {w3 W : World} {B c1 : Nat} {a : Option Addr} {l1 l2 : List Pla} {v2 : Value} (h : Ge2 w3 B l1 l2 (.slice a l1.length c1) v2 W) : IsCs W a l1 := by
  rcases h.r1.2 with ⟨e, h0⟩ | ⟨g, cap', cur, e, hg, hb, hc, hm, hs, ht⟩
  · exact ⟨by rw [h0]; exact Nat.zero_le _, fun hp => by omega⟩
  · simp only [Value.slice.injEq, true_and] at e
    refine ⟨Nat.le_trans hc hm, fun _ => ⟨g, 0, e.1, (Array.getElem?_eq_some_iff.1 hb).1, fun i hi => ?_⟩⟩
    have h1 := cellsK_at l1 i hi
    rw [← ht, List.getElem?_take_of_lt (by omega)] at h1
    rw [Nat.zero_add, cell_of_row _ _ _ _ _ _ hb]
    simpa using h1
theorem Ge2.ss {w3 W : World} {B c2 : Nat} {a : Option Addr} {l1 l2 : List Pla} {v1 : Value} (h : Ge2 w3 B l1 l2 v1 (.slice a l2.length c2) W) : IsSs W a l2 := by
  rcases h.r2.2 with ⟨e, h0⟩ | ⟨g, cap', cur, e, hg, hb, hc, hm, hs, ht⟩
  · exact ⟨by rw [h0]; exact Nat.zero_le _, fun hp => by omega⟩
  · simp only [Value.slice.injEq, true_and] at e
    refine ⟨Nat.le_trans hc hm, fun _ => ⟨g, 0, e.1, (Array.getElem?_eq_some_iff.1 hb).1, fun i hi => ?_⟩⟩
    obtain ⟨h1, h2⟩ := cellsS_at l2 i hi
    rw [← ht, List.getElem?_take_of_lt (by omega)] at h1 h2
    rw [Nat.zero_add, cell_of_row _ _ _ _ _ _ hb, cell_of_row _ _ _ _ _ _ hb]
    exact ⟨by simpa using h1, by simpa using h2⟩
theorem row_slice14 {W : World} {B n sz : Nat} {T : TypeId} {v : Value} {xs : List Value} (h : W.ownsRow B T sz v n xs) : ∃ a cap, v = .slice a n cap := by
  rcases h.2 with ⟨rfl, rfl⟩ | ⟨g1, cap1, cur, rfl, _⟩
  · exact ⟨none, 0, rfl⟩
  · exact ⟨_, _, rfl⟩

/-- A slice of places that came in. -/
def IsPls (w : World) (a : Option Addr) (len : Nat) : Prop := ∃ vs, vs.length = len ∧ IsLs w a vs
/-- The law's boxes. -/
def Ex14 (w : World) (x : Pla) (k v : Nat) (s0 s1 : Int) (W : World) : Prop := BoxPl w.heap.size x W ∧ BoxP (w.heap.size + 1) k v W ∧ BoxW2 (w.heap.size + 1 + 1) s0 s1 W ∧ KeptIn (· < w.heap.size) w W
theorem Ex14.old {w W W' : World} {x : Pla} {k v : Nat} {s0 s1 : Int} (h : Ex14 w x k v s0 s1 W) (hk : KeptIn (· < W.heap.size) W W') : Ex14 w x k v s0 s1 W' :=
  ⟨h.1.kept hk h.1.lt, h.2.1.kept hk h.2.1.lt, h.2.2.1.kept hk h.2.2.1.lt, h.2.2.2.go hk⟩
theorem ex14_start (w : World) (x : Pla) (k v : Nat) (s0 s1 : Int) : Ex14 w x k v s0 s1 (((w.alloc (.cells #[.int .i64 x.ch, .int .i64 x.tier, .int .i64 x.slot] 47)).alloc (.cells #[.int .u64 (k : Int), .int .u64 (v : Int)] 50)).alloc (.cells #[.int .i64 s0, .int .i64 s1] 52)) := by
  have h1 := BoxPl.new w x
  obtain ⟨W1, hW1⟩ : ∃ W1, w.alloc (.cells #[.int .i64 x.ch, .int .i64 x.tier, .int .i64 x.slot] 47) = W1 := ⟨_, rfl⟩
  have hk1 : KeptIn (· < w.heap.size) w W1 := by rw [← hW1]; exact (KeptIn.refl _ w).alloc (fun _ h => h) _
  have hs1 : W1.heap.size = w.heap.size + 1 := by rw [← hW1]; simp
  rw [hW1] at h1 ⊢
  have h2 := BoxP.new W1 k v
  obtain ⟨W2, hW2⟩ : ∃ W2, W1.alloc (.cells #[.int .u64 (k : Int), .int .u64 (v : Int)] 50) = W2 := ⟨_, rfl⟩
  have hk2 : KeptIn (· < W1.heap.size) W1 W2 := by rw [← hW2]; exact (KeptIn.refl _ W1).alloc (fun _ h => h) _
  have hs2 : W2.heap.size = w.heap.size + 1 + 1 := by rw [← hW2, World.size_alloc, hs1]
  rw [hW2] at h2 ⊢
  have h3 := BoxW2.new W2 s0 s1
  have hk3 : KeptIn (· < W2.heap.size) W2 (W2.alloc (.cells #[.int .i64 s0, .int .i64 s1] 52)) := (KeptIn.refl _ W2).alloc (fun _ h => h) _
  rw [hs1] at h2
  rw [hs2] at h3
  exact ⟨(h1.kept hk2 h1.lt).kept hk3 (Nat.lt_of_lt_of_le h1.lt hk2.size), h2.kept hk3 h2.lt, h3, (hk1.go hk2).go hk3⟩
theorem pk_bnd (j : Nat) (h : j ≤ 20) : j + 1 ≤ maxLen ∧ (j + 1) * 8 ≤ 140737488355328 ∧ (j + 1) * 16 ≤ 140737488355328 := by
  refine ⟨?_, by omega, by omega⟩
  unfold maxLen
  omega
theorem getD_take14 (l : List Pla) (j : Nat) (h : j < l.length) : l.take (j + 1) = l.take j ++ [l.getD j pla0] := by
  rw [List.take_add_one, List.getElem?_eq_getElem h, List.getD_eq_getElem?_getD, List.getElem?_eq_getElem h]
  rfl

end Go.Proofs.Ytdbanlifneomgaa
