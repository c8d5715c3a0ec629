import Derived.Test.YtjollbaohopmjaaUg9W
import Derived.Test.YtjollbaohopmjaaUb9W
/- ReachUnion of layer 9: what stands in the loop over the trees that are asked for. -/
set_option linter.unusedVariables false
namespace Go.Proofs.Ytjollbaohopmjaa
open Go.RowKit

/-- Two rows of integers and a variable of bools that a law makes behind V. -/
structure Ud (V : World) (B gb : Nat) (S T : List Int) (nb : List Bool) (v1 v2 : Value) (W : World) : Prop where
  k : KeptIn (· < B) V W
  r1 : W.ownsRow B 3 1 v1 S.length (cellsI S)
  r2 : W.ownsRow B 3 1 v2 T.length (cellsI T)
  nd : RowB gb nb W
  gB : B ≤ gb
  ap : ∀ g, v1.ownBlock = some g → v2.ownBlock ≠ some g
section
variable {V W W' w1 : World} {B gb : Nat} {S T : List Int} {nb : List Bool} {v1 v2 : Value} {x : Int}
theorem Ud.old (h : Ud V B gb S T nb v1 v2 W) (hB : V.heap.size = B) (hk : KeptIn (· < W.heap.size) W W') : Ud V B gb S T nb v1 v2 W' :=
  ⟨h.k.trans (hk.mono fun k hk' => Nat.lt_of_lt_of_le (by rw [hB]; exact hk') h.k.size), rowS_block h.r1 fun g e => hk.block g (rowS_lt h.r1 g e).2, rowS_block h.r2 fun g e => hk.block g (rowS_lt h.r2 g e).2, h.nd.kept hk h.nd.lt, h.gB, h.ap⟩
theorem Ud.ne1 (h : Ud V B gb S T nb v1 v2 W) : v1.ownBlock ≠ some gb := fun e => by
  obtain ⟨cs, fr, hc⟩ := own_type h.r1 e
  have h1 : W.heap[gb]? = _ := h.nd
  have := h1.symm.trans hc
  simp at this
theorem Ud.ne2 (h : Ud V B gb S T nb v1 v2 W) : v2.ownBlock ≠ some gb := fun e => by
  obtain ⟨cs, fr, hc⟩ := own_type h.r2 e
  have h1 : W.heap[gb]? = _ := h.nd
  have := h1.symm.trans hc
  simp at this
/-- Behind the append of a root. -/
theorem Ud.push {g cap : Nat} {o : Obj} (h : Ud V B gb S T nb v1 v2 W) (hB : V.heap.size = B) (hg : (W.alloc o).grownBy w1 v1.ownBlock) (hl : v1.ownBlock = some g ∨ g = W.heap.size + 1)
    (hown : w1.ownsRow B 3 1 (.slice (some ⟨g, 0, none⟩) (S.length + 1) cap) (S.length + 1) (cellsI S ++ [.int .i64 x])) :
    Ud V B gb (S ++ [x]) T nb (.slice (some ⟨g, 0, none⟩) (S.length + 1) cap) v2 w1 := by
  have hk := grow_kept hg
  have hz := h.k.size
  refine ⟨h.k.trans (hk.mono fun k hk2 => ⟨by omega, fun e => by have := (rowS_lt h.r1 k e).1; omega⟩), ?_, rowS_block h.r2 fun k e => hk.block k ⟨(rowS_lt h.r2 k e).2, fun e2 => h.ap k e2 e⟩, h.nd.kept hk ⟨h.nd.lt, h.ne1⟩, h.gB, fun k e e2 => ?_⟩
  · rw [List.length_append, show cellsI (S ++ [x]) = cellsI S ++ [.int .i64 x] by simp [cellsI]]; exact hown
  · simp only [Value.ownBlock, Option.some.injEq] at e
    subst e
    rcases hl with hl | hl
    · exact h.ap g hl e2
    · have := (rowS_lt h.r2 g e2).2; omega
/-- A new second row. -/
theorem Ud.back {v : Value} {T' : List Int} (h : Ud V B gb S T nb v1 v2 W) (hB : V.heap.size = B) (hk : KeptIn (· < W.heap.size) W W') (hr : W'.ownsRow W.heap.size 3 1 v T'.length (cellsI T')) : Ud V B gb S T' nb v1 v W' := by
  have h' := h.old hB hk
  have hz := h.k.size
  refine ⟨h'.k, h'.r1, row_weaken9 hr (by omega), h'.nd, h.gB, fun g e e2 => ?_⟩
  have := (rowS_lt h.r1 g e).2
  have := (rowS_lt hr g e2).1
  omega
/-- A page is marked. -/
theorem Ud.set (h : Ud V B gb S T nb v1 v2 W) (q : Nat) : Ud V B gb S T (nb.set q true) v1 v2 (W.setCell ⟨gb, q, none⟩ (.bool true)) := by
  have hs : KeptIn (fun k => k ≠ gb) W (W.setCell ⟨gb, q, none⟩ (.bool true)) := (KeptIn.refl _ W).setCell (p := ⟨gb, q, none⟩) (by simp) _
  have := h.gB
  exact ⟨h.k.trans (hs.mono fun k hk => by omega), rowS_block h.r1 fun g e => hs.block g (fun e2 => h.ne1 (e2 ▸ e)), rowS_block h.r2 fun g e => hs.block g (fun e2 => h.ne2 (e2 ▸ e)), h.nd.set q true, h.gB, h.ap⟩
end

/-- Marks for a list of pages. -/
def mkB (nb : List Bool) (l : List Int) : List Bool := l.foldl (fun nb q => nb.set q.toNat true) nb
theorem mkB_snoc (nb : List Bool) (l : List Int) (q : Int) : mkB nb (l ++ [q]) = (mkB nb l).set q.toNat true := by unfold mkB; rw [List.foldl_append]; rfl
theorem mkB_length (nb : List Bool) (l : List Int) : (mkB nb l).length = nb.length := by
  induction l generalizing nb with
  | nil => rfl
  | cons q r ih => show (mkB (nb.set q.toNat true) r).length = _; rw [ih, List.length_set]
/-- What the marks say. -/
def MkI (nb : List Bool) (P : Int → Prop) : Prop := nb.length = 512 ∧ ∀ i : Nat, i < 512 → (nb[i]? = some true ↔ P (i : Int))
theorem MkI.mk {nb : List Bool} {P : Int → Prop} (h : MkI nb P) (l : List Int) (hl : ∀ q ∈ l, 0 ≤ q) : MkI (mkB nb l) fun q => P q ∨ q ∈ l := by
  induction l generalizing nb P with
  | nil => exact ⟨h.1, fun i hi => by rw [show mkB nb [] = nb from rfl, h.2 i hi]; simp⟩
  | cons q r ih =>
    have hq := hl q (by simp)
    have h1 : MkI (nb.set q.toNat true) fun z => P z ∨ z = q := by
      refine ⟨by rw [List.length_set]; exact h.1, fun i hi => ?_⟩
      by_cases e : q.toNat = i
      · rw [e, List.getElem?_set_self (by rw [h.1]; exact hi)]
        exact ⟨fun _ => .inr (by omega), fun _ => rfl⟩
      · rw [List.getElem?_set_ne e, h.2 i hi]
        exact ⟨.inl, fun h2 => h2.resolve_right (by omega)⟩
    obtain ⟨a, b⟩ := ih h1 fun z hz => hl z (List.mem_cons_of_mem _ hz)
    refine ⟨a, fun i hi => (b i hi).trans ?_⟩
    show (P (i : Int) ∨ (i : Int) = q) ∨ (i : Int) ∈ r ↔ P (i : Int) ∨ (i : Int) ∈ q :: r
    rw [List.mem_cons]
    exact or_assoc
theorem MkI.iff {nb : List Bool} {P Q : Int → Prop} (h : MkI nb P) (e : ∀ q, P q ↔ Q q) : MkI nb Q := ⟨h.1, fun i hi => (h.2 i hi).trans (e i)⟩
theorem MkI.zero : MkI falses fun _ => False := ⟨falses_length, fun i hi => by
  unfold falses
  rw [List.getElem?_replicate, if_pos hi]
  simp⟩

end Go.Proofs.Ytjollbaohopmjaa
