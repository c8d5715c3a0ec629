/- Places: the marks of taken slots; Good. -/
import Derived.Test.YtdbanlifneomgaaPe14
import Derived.Deep.RegionLaw
import Derived.BigQuiet
import Derived.BigRegion
set_option linter.unusedVariables false
namespace Go.Proofs.Ytdbanlifneomgaa
open Go.RowKit

/-- A variable of two rows of 256 bools. -/
def BoxT (g : Nat) (l : List Bool) (W : World) : Prop := W.heap[g]? = some (.cells (l.map Value.bool).toArray 104 (0, 0))
def noT : List Bool := List.replicate 512 false
section
variable {g : Nat} {l : List Bool} {W W' : World}
theorem BoxT.lt (h : BoxT g l W) : g < W.heap.size := (Array.getElem?_eq_some_iff.1 h).1
theorem BoxT.kept {X : Nat → Prop} (h : BoxT g l W) (hk : KeptIn X W W') (hX : X g) : BoxT g l W' := (hk.block g hX).trans h
theorem BoxT.cell (h : BoxT g l W) {i : Nat} {b : Bool} (hi : l[i]? = some b) : W.cell? ⟨g, i, none⟩ = some (.bool b) := by
  unfold BoxT at h
  simp [World.cell?, h, hi]
theorem BoxT.fro (h : BoxT g l W) (i : Nat) : W.frozen? ⟨g, i, none⟩ = false := by
  unfold BoxT at h
  simp [World.frozen?, h]
theorem BoxT.set (h : BoxT g l W) (i : Nat) (b : Bool) : BoxT g (l.set i b) (W.setCell ⟨g, i, none⟩ (.bool b)) := by
  obtain ⟨hlt, hk⟩ := Array.getElem?_eq_some_iff.1 h
  show (W.heap.modify g _)[g]? = _
  rw [Array.getElem?_eq_getElem (by rw [Array.size_modify]; exact hlt), Array.getElem_modify_self, hk]
  simp [List.map_set]
end
theorem run_alloc_T (w : World) : (Instr.alloc 104 true (.tuple #[])).run Try.prog w = .ok (.pointer (some ⟨w.heap.size, 0, none⟩)) (w.alloc (.cells (noT.map Value.bool).toArray 104)) := by kernel_rfl
theorem wpList_alloc_T {ops : Array Oper} {rest : List Oper} {o : Oper} {a : Act} {w : World} {Q : Exit → Act → World → Prop} (hg : o.guard = none) (hop : o.op = Op.alloc 104)
    (h : ∀ w', BoxT w.heap.size noT w' → KeptIn (· < w.heap.size) w w' → w'.heap.size = w.heap.size + 1 → wpList Try.prog ops Q rest (a.put o.dst (.pointer (some ⟨w.heap.size, 0, none⟩))) w') :
    wpList Try.prog ops Q (o :: rest) a w := by
  refine wpList_plain hg fun K hK => ?_
  have hrun := run_alloc_T w
  unfold Oper.wp
  simp only [execOp, hop, Sem.run_bind, hrun, Result.andThen_ok, Sem.run_pure]
  exact hK _ _ (h _ (heap_alloc_new w _) ((KeptIn.refl _ w).alloc (fun _ h => h) _) (by simp))

/-- What the marks say of the first j places. -/
structure MkT (vs : List Pla) (j : Nat) (l : List Bool) : Prop where
  len : l.length = 512
  iff : ∀ t s : Nat, t ≤ 1 → s ≤ 255 → ∃ b, l[t * 256 + s]? = some b ∧ (b = true ↔ ∃ k, k < j ∧ (vs.getD k pla0).tier = (t : Int) ∧ (vs.getD k pla0).slot = (s : Int))
theorem MkT.zero (vs : List Pla) : MkT vs 0 noT := by
  refine ⟨List.length_replicate, fun t s ht hs => ⟨false, ?_, ?_⟩⟩
  · unfold noT
    rw [List.getElem?_replicate, if_pos (by omega)]
  · constructor
    · intro h; cases h
    · rintro ⟨k, hk, _⟩; omega
theorem MkT.next {vs : List Pla} {j : Nat} {l : List Bool} (h : MkT vs j l) {t s : Nat} (ht : t ≤ 1) (hs : s ≤ 255) (e1 : (vs.getD j pla0).tier = (t : Int)) (e2 : (vs.getD j pla0).slot = (s : Int)) : MkT vs (j + 1) (l.set (t * 256 + s) true) := by
  refine ⟨by rw [List.length_set]; exact h.len, fun t' s' ht' hs' => ?_⟩
  obtain ⟨b, hb, hi⟩ := h.iff t' s' ht' hs'
  by_cases e : t * 256 + s = t' * 256 + s'
  · have et : t = t' := by omega
    have es : s = s' := by omega
    subst et es
    refine ⟨true, by rw [List.getElem?_set_self (by rw [h.len]; omega)], fun _ => ⟨j, by omega, e1, e2⟩, fun _ => rfl⟩
  · refine ⟨b, by rw [List.getElem?_set_ne e]; exact hb, fun hbt => ?_, ?_⟩
    · obtain ⟨k, hk, h1⟩ := hi.1 hbt
      exact ⟨k, by omega, h1⟩
    · rintro ⟨k, hk, h1, h2⟩
      by_cases ek : k = j
      · subst ek
        rw [e1] at h1
        rw [e2] at h2
        omega
      · exact hi.2 ⟨k, by omega, h1, h2⟩

/-- Two numbers, boxed. -/
def BoxW2 (y : Nat) (s0 s1 : Int) (W : World) : Prop := W.heap[y]? = some (.cells #[.int .i64 s0, .int .i64 s1] 52 (0, 0))
theorem BoxW2.kept {X : Nat → Prop} {y : Nat} {s0 s1 : Int} {W W' : World} (h : BoxW2 y s0 s1 W) (hk : KeptIn X W W') (hX : X y) : BoxW2 y s0 s1 W' := (hk.block y hX).trans h
theorem BoxW2.lt {y : Nat} {s0 s1 : Int} {W : World} (h : BoxW2 y s0 s1 W) : y < W.heap.size := (Array.getElem?_eq_some_iff.1 h).1
theorem BoxW2.new (w : World) (s0 s1 : Int) : BoxW2 w.heap.size s0 s1 (w.alloc (.cells #[.int .i64 s0, .int .i64 s1] 52)) := heap_alloc_new w _
theorem BoxW2.at {y b : Nat} {s0 s1 : Int} {W : World} (h : BoxW2 y s0 s1 W) (hb : b ≤ 1) : W.cell? ⟨y, b, none⟩ = some (.int .i64 (slotsOf s0 s1 (b : Int))) := by
  have h' : W.heap[y]? = _ := h
  rcases Nat.lt_or_ge b 1 with h1 | h1
  · obtain rfl : b = 0 := by omega
    simp [World.cell?, h', slotsOf]
  · obtain rfl : b = 1 := by omega
    simp [World.cell?, h', slotsOf]

/-- What stands in Good's loop: box of slots at y, marks at g. -/
def Gd14 (w : World) (y g : Nat) (vs : List Pla) (s0 s1 : Int) (j : Nat) (W : World) : Prop :=
  KeptIn (· < w.heap.size) w W ∧ BoxW2 y s0 s1 W ∧ (∀ i, i < j → OkAt vs s0 s1 i) ∧ (∃ l, BoxT g l W ∧ MkT vs j l) ∧ w.heap.size ≤ g ∧ y < g
theorem Gd14.old {w W W' : World} {y g j : Nat} {vs : List Pla} {s0 s1 : Int} (h : Gd14 w y g vs s0 s1 j W) (hk : KeptIn (· < W.heap.size) W W') : Gd14 w y g vs s0 s1 j W' := by
  obtain ⟨h1, h3, h4, ⟨l, h5, h6⟩, h7, h8⟩ := h
  exact ⟨h1.go hk, h3.kept hk h3.lt, h4, ⟨l, h5.kept hk h5.lt, h6⟩, h7, h8⟩
theorem Gd14.mark {w W : World} {y g j t s : Nat} {vs : List Pla} {s0 s1 : Int} (h : Gd14 w y g vs s0 s1 j W) (ht : t ≤ 1) (hs : s ≤ 255) (e1 : (vs.getD j pla0).tier = (t : Int)) (e2 : (vs.getD j pla0).slot = (s : Int)) (hok : OkAt vs s0 s1 j) :
    Gd14 w y g vs s0 s1 (j + 1) (W.setCell ⟨g, t * 256 + s, none⟩ (.bool true)) := by
  obtain ⟨h1, h3, h4, ⟨l, h5, h6⟩, h7, h8⟩ := h
  have hk : KeptIn (· ≠ g) W (W.setCell ⟨g, t * 256 + s, none⟩ (.bool true)) := (KeptIn.refl _ W).setCell (p := ⟨g, t * 256 + s, none⟩) (by simp) _
  refine ⟨h1.trans (hk.mono fun k hk' => by omega), h3.kept hk (by omega), fun i hi => ?_, ⟨_, h5.set (t * 256 + s) true, h6.next ht hs e1 e2⟩, h7, h8⟩
  by_cases e : i = j
  · rw [e]; exact hok
  · exact h4 i (by omega)
theorem gd14_start (w : World) (vs : List Pla) (s0 s1 : Int) (W W' : World) (hW : W = w.alloc (.cells #[.int .i64 s0, .int .i64 s1] 52)) (hb : BoxT W.heap.size noT W') (hk : KeptIn (· < W.heap.size) W W') : Gd14 w w.heap.size W.heap.size vs s0 s1 0 W' := by
  have h1 := BoxW2.new w s0 s1
  rw [← hW] at h1
  have hs : W.heap.size = w.heap.size + 1 := by rw [hW]; simp
  have hk1 : KeptIn (· < w.heap.size) w W := by rw [hW]; exact (KeptIn.refl _ w).alloc (fun _ h => h) _
  exact ⟨hk1.go hk, h1.kept hk h1.lt, fun i hi => absurd hi (Nat.not_lt_zero _), ⟨_, hb, MkT.zero vs⟩, by omega, by omega⟩

end Go.Proofs.Ytdbanlifneomgaa
