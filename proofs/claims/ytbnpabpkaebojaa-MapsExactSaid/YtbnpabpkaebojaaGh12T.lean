import Derived.Test.YtbnpabpkaebojaaAp12T
import Derived.Test.YtbnpabpkaebojaaRg12T
import Derived.Deep.WholeRow
/- MapsGood of layer 12: two rows of numbers that grow side by side; a tree and a row of places. -/
set_option linter.unusedVariables false
namespace Go.Proofs.Ytbnpabpkaebojaa
open Go.RowKit

theorem infoInt12 : (Try.prog.info? 3).map (fun i => (i.zero, i.size, i.bytes)) = some (some (.int .i64 0), 1, 8) := by kernel_rfl

/-- Two rows of numbers, made since block B. -/
structure Ge1 (w3 : World) (B : Nat) (l1 l2 : List Int) (v1 v2 : Value) (W : World) : Prop where
  r1 : W.ownsRow B 3 1 v1 l1.length (cellsI l1)
  r2 : W.ownsRow B 3 1 v2 l2.length (cellsI l2)
  ne : ∀ g, v1.ownBlock = some g → v2.ownBlock ≠ some g
  kept : KeptIn (· < B) w3 W
  hB : w3.heap.size = B
theorem cellsI_snoc (l : List Int) (x : Int) : cellsI (l ++ [x]) = cellsI l ++ [.int .i64 x] := by simp [cellsI]
theorem Ge1.le {w3 W : World} {B : Nat} {l1 l2 : List Int} {v1 v2 : Value} (h : Ge1 w3 B l1 l2 v1 v2 W) : B ≤ W.heap.size := by
  have := h.kept.size
  rw [h.hB] at this
  exact this
theorem Ge1.push1 {w3 W w1 : World} {B g cap : Nat} {l1 l2 : List Int} {v1 v2 : Value} {x : Int} {o : Obj} (h : Ge1 w3 B l1 l2 v1 v2 W) (hg : (W.alloc o).grownBy w1 v1.ownBlock) (hl : v1.ownBlock = some g ∨ g = W.heap.size + 1)
    (hown : w1.ownsRow B 3 1 (.slice (some ⟨g, 0, none⟩) (l1.length + 1) cap) (l1.length + 1) (cellsI l1 ++ [.int .i64 x])) : Ge1 w3 B (l1 ++ [x]) l2 (.slice (some ⟨g, 0, none⟩) (l1.length + 1) cap) v2 w1 := by
  have hk := grow_kept hg
  refine ⟨by rw [List.length_append, cellsI_snoc]; exact hown, rowS_block h.r2 fun k e => hk.block k ⟨(rowS_lt h.r2 k e).2, fun e2 => h.ne k e2 e⟩, fun k e e2 => ?_, h.kept.trans (hk.mono fun k hk' => ⟨Nat.lt_of_lt_of_le hk' h.le, fun e => absurd (rowS_lt h.r1 k e).1 (Nat.not_le.2 hk')⟩), h.hB⟩
  simp only [Value.ownBlock, Option.some.injEq] at e
  subst e
  rcases hl with hl | hl
  · exact h.ne _ hl e2
  · have := (rowS_lt h.r2 _ e2).2
    omega
theorem Ge1.push2 {w3 W w1 : World} {B g cap : Nat} {l1 l2 : List Int} {v1 v2 : Value} {x : Int} {o : Obj} (h : Ge1 w3 B l1 l2 v1 v2 W) (hg : (W.alloc o).grownBy w1 v2.ownBlock) (hl : v2.ownBlock = some g ∨ g = W.heap.size + 1)
    (hown : w1.ownsRow B 3 1 (.slice (some ⟨g, 0, none⟩) (l2.length + 1) cap) (l2.length + 1) (cellsI l2 ++ [.int .i64 x])) : Ge1 w3 B l1 (l2 ++ [x]) v1 (.slice (some ⟨g, 0, none⟩) (l2.length + 1) cap) w1 := by
  have hk := grow_kept hg
  refine ⟨rowS_block h.r1 fun k e => hk.block k ⟨(rowS_lt h.r1 k e).2, fun e2 => h.ne k e e2⟩, by rw [List.length_append, cellsI_snoc]; exact hown, fun k e e2 => ?_, h.kept.trans (hk.mono fun k hk' => ⟨Nat.lt_of_lt_of_le hk' h.le, fun e => absurd (rowS_lt h.r2 k e).1 (Nat.not_le.2 hk')⟩), h.hB⟩
  simp only [Value.ownBlock, Option.some.injEq] at e2
  subst e2
  rcases hl with hl | hl
  · exact h.ne _ e hl
  · have := (rowS_lt h.r1 _ e).2
    omega
theorem Ge1.old {w3 W W' : World} {B : Nat} {l1 l2 : List Int} {v1 v2 : Value} (h : Ge1 w3 B l1 l2 v1 v2 W) (hk : KeptIn (· < W.heap.size) W W') : Ge1 w3 B l1 l2 v1 v2 W' :=
  ⟨rowS_block h.r1 fun g e => hk.block g (rowS_lt h.r1 g e).2, rowS_block h.r2 fun g e => hk.block g (rowS_lt h.r2 g e).2, h.ne, h.kept.trans (hk.mono fun k hk' => Nat.lt_of_lt_of_le hk' h.le), h.hB⟩
/-- What the law begins with. -/
theorem ge1_zero (w3 : World) (B : Nat) (hB : w3.heap.size = B) (W : World) (hW : W = (w3.alloc (.cells #[] 3)).alloc (.cells #[] 3)) : Ge1 w3 B [] [] (.slice (some ⟨B, 0, none⟩) 0 0) (.slice (some ⟨B + 1, 0, none⟩) 0 0) W := by
  have h1 : W.heap[B]? = some (.cells #[] 3 (0, 0)) := by
    rw [hW]
    refine (Lib.alloc_old _ _ _ (by rw [World.size_alloc]; omega)).trans ?_
    rw [← hB]
    exact heap_alloc_new w3 _
  have h2 : W.heap[B + 1]? = some (.cells #[] 3 (0, 0)) := by
    have := heap_alloc_new (w3.alloc (.cells #[] 3)) (.cells #[] 3)
    rw [World.size_alloc, hB] at this
    rw [hW]
    exact this
  refine ⟨⟨rfl, .inr ⟨B, 0, _, rfl, Nat.le_refl _, h1, Nat.le_refl _, by decide, rfl, rfl⟩⟩, ⟨rfl, .inr ⟨B + 1, 0, _, rfl, Nat.le_succ _, h2, Nat.le_refl _, by decide, rfl, rfl⟩⟩, fun g e e2 => ?_, ?_, hB⟩
  · simp only [Value.ownBlock, Option.some.injEq] at e e2
    omega
  · rw [hW]
    exact ((KeptIn.refl _ w3).alloc (fun k (h : k < B) => by omega) _).alloc (fun k (h : k < B) => by omega) _

/-- The row of places is no part of the Shelf. -/
theorem rowM_at {u i : Nat} {l : List Nat} {W : World} (h : RowM u l W) : W.cell? ⟨u, i, none⟩ = (l.map iv)[i]? := by
  have h' : W.heap[u]? = some (.cells (l.map iv).toArray 58 (0, 0)) := h
  rw [cell_of_row _ _ _ _ _ _ h']
  simp
theorem rowM_u64 {u i : Nat} {l : List Nat} {W : World} (h : RowM u l W) {n : Int} (e : W.cell? ⟨u, i, none⟩ = some (.int .u64 n)) : False := by
  rw [rowM_at h, List.getElem?_map] at e
  cases hx : l[i]? with
  | none => rw [hx] at e; cases e
  | some x => rw [hx] at e; cases e
theorem rowM_slice {u i : Nat} {l : List Nat} {W : World} (h : RowM u l W) {a : Option Addr} {n c : Nat} (e : W.cell? ⟨u, i, none⟩ = some (.slice a n c)) : False := by
  rw [rowM_at h, List.getElem?_map] at e
  cases hx : l[i]? with
  | none => rw [hx] at e; cases e
  | some x => rw [hx] at e; cases e
theorem IsSh.butM {W : World} {s room u : Nat} {N : List Nd} {D : Nat → Prop} {l : List Nat} (h : IsSh W s room N D) (hu : RowM u l W) : IsSh W s room N (fun k => D k ∧ k ≠ u) := by
  obtain ⟨la, cap, h1, h0, h2⟩ := h.mem
  have hsu : s ≠ u := by
    rintro rfl
    have := h1.symm.trans hu
    simp at this
  refine ⟨⟨h.ds, hsu⟩, fun k hk => h.lt k hk.1, h.len, h.rm, h.pos, la, cap, h1, h0, fun hp => ?_⟩
  obtain ⟨b, e, hb, hne, hc, hm, hi⟩ := h2 hp
  refine ⟨b, e, ⟨hb, ?_⟩, hne, hc, hm, fun i hl => ?_⟩
  · rintro rfl
    obtain ⟨a, cp, e1, e2, _⟩ := hi 0 hp
    exact rowM_slice hu e2
  · obtain ⟨a, cp, e1, e2, e3, e4⟩ := hi i hl
    refine ⟨a, cp, e1, e2, e3, fun p ep => ⟨⟨(e4 p ep).1, ?_⟩, (e4 p ep).2⟩⟩
    rintro rfl
    obtain ⟨b', off, eb, hb', hc'⟩ := e3.cells (h.pos i hl).1
    rw [ep] at eb
    cases eb
    exact rowM_u64 hu (hc' 0 (h.pos i hl).1).1
theorem TrN.storeM {w3 W W' : World} {s room root f u : Nat} {qs : Pairs} {N : List Nd} {l : List Nat} (h : TrN w3 s room root qs f N W) (hu : RowM u l W) (hw : w3.heap.size ≤ u) (hk : KeptIn (· ≠ u) W W') : TrN w3 s room root qs f N W' := by
  obtain ⟨D, h1, h2, h3, h4, h5⟩ := h
  have h6 := h1.butM hu
  exact ⟨_, h6.kept (hk.mono fun k hk => hk.2), h2, h3, fun k hk => h4 k hk.1, h5.trans (hk.mono fun k hk => by omega)⟩

/-- A row of places that comes to know one more. -/
theorem rowU_snoc {ps : Pairs} {k v : Nat} (hs : Srt (ps ++ [(k, v)])) : (rowU ps).set k v = rowU (ps ++ [(k, v)]) := by
  have hs1 : Srt ps := (List.pairwise_append.1 hs).1
  have hlt : ∀ p ∈ ps, p.1 < k := fun p hp => (List.pairwise_append.1 hs).2.2 p hp _ (List.mem_singleton.2 rfl)
  refine rowU_ext (by rw [List.length_set, rowU_length]) fun i hi => ?_
  rw [List.getElem?_set, rowU_length, rowU_at ps hi]
  by_cases h : k = i
  · subst h
    rw [if_pos rfl, if_pos hi, lookM_in hs (List.mem_append.2 (.inr (List.mem_singleton.2 rfl)))]
  · rw [if_neg h, lookM_ext hs1 hs (k := i) fun u => ?_]
    rw [List.mem_append, List.mem_singleton]
    constructor
    · exact .inl
    · rintro (h1 | h1)
      · exact h1
      · exact absurd (Prod.mk.inj h1).1.symm h

end Go.Proofs.Ytbnpabpkaebojaa
