/- ChunkDown: behind a fuse deeds are ErrDown, and only chunks that were meant are loose. -/
import Derived.Test.YtmfnapbahkonhaaAw18
import Derived.Test.YtmfnapbahkonhaaArgs
import Derived.Test.YtmfnapbahkonhaaNums
set_option linter.unusedVariables false
namespace Go.Proofs.Ytmfnapbahkonhaa
open Go.RowKit

/-- Between two rounds: which chunks were meant (B, in block g); all that is loose lies in them. -/
structure Cd18 (w : World) (k m g d0 : Nat) (j : Nat) (B : List Bool) (p : Pw) (T : Nat → Dsk) (W : World) : Prop where
  lw : Lw18 w k m 2 p T W
  mt : W.heap[g]? = some (.cells (B.map Value.bool).toArray 65 (0, 0))
  bl : B.length = 10
  gw : w.heap.size ≤ g
  sup : ∀ y, (T 0).M y ≠ none → ∃ i : Nat, B[i]? = some true ∧ (y = 2 * (i : Int) ∨ y = 2 * (i : Int) + 1)
  len : (T 0).S.length = 20
  d0 : (T 0).d = d0
  nn : (T 0).N ≤ 2 * j

theorem Dck.ne_of {k m sz : Nat} {p : Pw} {T : Nat → Dsk} {W : World} (h : Dck k m sz p T W) {g : Nat} {cs : Array Value} {ty : TypeId} (hg : W.heap[g]? = some (.cells cs ty (0, 0))) (h1 : ty ≠ 68) (h2 : ty ≠ 74) :
    g ≠ m ∧ ∀ t, t < 2 → g ≠ (T t).s ∧ g ≠ (T t).b := by
  refine ⟨fun e => ?_, fun t ht => ⟨fun e => ?_, (h.isD t ht).map.ne hg⟩⟩
  · have h3 : W.heap[m]? = _ := h.isP.1
    rw [← e, hg] at h3
    simp only [Option.some.injEq, Obj.cells.injEq] at h3
    exact h1 h3.2.1
  · have h3 := (h.isD t ht).hs
    rw [← e, hg] at h3
    simp only [Option.some.injEq, Obj.cells.injEq] at h3
    exact h2 h3.2.1

section
variable {w : World} {k m g d0 j : Nat} {B : List Bool} {p p' : Pw} {T : Nat → Dsk} {W W' : World}
theorem Cd18.old (h : Cd18 w k m g d0 j B p T W) (hk : KeptIn (· < W.heap.size) W W') : Cd18 w k m g d0 j B p T W' :=
  ⟨h.lw.old hk, (hk.block g (Array.getElem?_eq_some_iff.1 h.mt).1).trans h.mt, h.bl, h.gw, h.sup, h.len, h.d0, h.nn⟩
theorem Cd18.sl (h : Cd18 w k m g d0 j B p T W) : slN T 2 0 = 10 := by unfold slN; rw [h.len]; decide
theorem Cd18.cell (h : Cd18 w k m g d0 j B p T W) (i : Nat) (hi : i < 10) : W.cell? ⟨g, i, none⟩ = some (.bool (B.getD i false)) := by
  rw [cell_of_row _ _ i _ _ _ h.mt, List.getElem?_toArray, List.getElem?_map, List.getD_eq_getElem?_getD, List.getElem?_eq_getElem (by rw [h.bl]; exact hi)]
  rfl
/-- One is meant. -/
theorem Cd18.mark (h : Cd18 w k m g d0 j B p T W) (i : Nat) (hi : i < 10) : Cd18 w k m g d0 j (B.set i true) p T (W.setCell ⟨g, i, none⟩ (.bool true)) := by
  obtain ⟨n1, n2⟩ := h.lw.dk.ne_of h.mt (by decide) (by decide)
  have hk : KeptIn (· ≠ g) W (W.setCell ⟨g, i, none⟩ (.bool true)) := (KeptIn.refl _ W).setCell (by simp) _
  have hd := h.lw.dk
  have nk : k ≠ g := fun e => by
    have h3 := hd.box
    rw [e, h.mt] at h3
    simp only [Option.some.injEq, Obj.cells.injEq] at h3
    exact absurd h3.2.1 (by decide)
  have ndd : ∀ t, t < 2 → (T t).d ≠ g := fun t ht e => by
    have h3 := (hd.isD t ht).hd
    rw [e, h.mt] at h3
    simp only [Option.some.injEq, Obj.cells.injEq] at h3
    exact absurd h3.2.1 (by decide)
  refine ⟨⟨⟨(hk.block k nk).trans hd.box, hd.isP.kept hk n1.symm, fun t ht => (hd.isD t ht).kept hk (ndd t ht) (n2 t ht).1.symm (n2 t ht).2.symm, hd.nd, hd.ns, hd.nb, hd.sz1, hd.sz8⟩, h.lw.lm, h.lw.ls, h.lw.kept.setCell (p := ⟨g, i, none⟩) (by have := h.gw; simp; omega) _⟩, ?_, by rw [List.length_set]; exact h.bl, h.gw, fun y hy => ?_, h.len, h.d0, h.nn⟩
  · rw [heap_setCell_same _ _ _ _ _ _ h.mt]
    rw [List.setIfInBounds_toArray, ← List.map_set]
  · obtain ⟨q, h1, h2⟩ := h.sup y hy
    refine ⟨q, ?_, h2⟩
    by_cases e : i = q
    · subst e
      rw [List.getElem?_set_self (by rw [h.bl]; exact hi)]
    · rw [List.getElem?_set_ne e]
      exact h1
/-- One that is meant was written. -/
theorem Cd18.wr (h : Cd18 w k m g d0 j B p T W) {i : Nat} {l : List UInt8} (hi : i < 10) (hB : B[i]? = some true) (hw : Wr18 k m 2 p T 0 2 (i * 2 + 0) l W W') :
    Cd18 w k m g d0 (j + 1) B (Pw.go 2 p).2 (upT T 0 ((T 0).wr 2 ((i * 2 + 0 : Nat) : Int) l (Pw.go 2 p).1)) W' := by
  obtain ⟨n1, n2⟩ := h.lw.dk.ne_of h.mt (by decide) (by decide)
  refine ⟨h.lw.wr (by decide) hw, (hw.2.block g ⟨(Array.getElem?_eq_some_iff.1 h.mt).1, n1, (n2 0 (by decide)).2⟩).trans h.mt, h.bl, h.gw, fun y hy => ?_, by rw [upT_self]; exact h.len, by rw [upT_self]; exact h.d0, by rw [upT_self]; have := h.nn; show (T 0).N + 2 ≤ _; omega⟩
  rw [upT_self] at hy
  have hy2 : putN (T 0).M ((i * 2 + 0 : Nat) : Int) l (Pw.go 2 p).1 y ≠ none := hy
  rw [putN_eq] at hy2
  have hle : (Pw.go 2 p).1 ≤ 2 := go_le 2 p
  by_cases hc : ((i * 2 + 0 : Nat) : Int) ≤ y ∧ y < ((i * 2 + 0 : Nat) : Int) + ((Pw.go 2 p).1 : Int)
  · exact ⟨i, hB, by omega⟩
  · rw [if_neg hc] at hy2
    exact h.sup y hy2
theorem Cd18.wr0 (h : Cd18 w k m g d0 j B p T W) {i : Nat} {l : List UInt8} (h0 : (Pw.go 2 p).1 = 0) (hw : Wr18 k m 2 p T 0 2 i l W W') :
    Cd18 w k m g d0 (j + 1) B (Pw.go 2 p).2 (upT T 0 ((T 0).wr 2 (i : Int) l (Pw.go 2 p).1)) W' := by
  obtain ⟨n1, n2⟩ := h.lw.dk.ne_of h.mt (by decide) (by decide)
  refine ⟨h.lw.wr (by decide) hw, (hw.2.block g ⟨(Array.getElem?_eq_some_iff.1 h.mt).1, n1, (n2 0 (by decide)).2⟩).trans h.mt, h.bl, h.gw, fun y hy => ?_, by rw [upT_self]; exact h.len, by rw [upT_self]; exact h.d0, by rw [upT_self]; have := h.nn; show (T 0).N + 2 ≤ _; omega⟩
  rw [upT_self] at hy
  have hy2 : putN (T 0).M (i : Int) l (Pw.go 2 p).1 y ≠ none := hy
  rw [h0] at hy2
  exact h.sup y hy2
theorem Cd18.pow (h : Cd18 w k m g d0 j B p T W) (hP : IsP m p' W') (hk : KeptIn (· ≠ m) W W') : Cd18 w k m g d0 j B p' T W' :=
  ⟨h.lw.pow hP hk, (hk.block g (h.lw.dk.ne_of h.mt (by decide) (by decide)).1).trans h.mt, h.bl, h.gw, h.sup, h.len, h.d0, h.nn⟩
theorem Cd18.flOff (h : Cd18 w k m g d0 j B p T W) (h1 : Dck k m 2 p' T W') (hk : KeptIn (· ≠ m) W W') : Cd18 w k m g d0 j B p' T W' := h.pow h1.isP hk
theorem Cd18.ples (h : Cd18 w k m g d0 j B p T W) : (places (T 0).S.length (T 0).M).length ≤ 20 := Nat.le_trans (places_le _ _) (Nat.le_of_eq h.len)
theorem Cd18.start (h : Lw18 w k m 2 p T W) (hg : W.heap[g]? = some (.cells ((List.replicate 10 false).map Value.bool).toArray 65 (0, 0))) (hw : w.heap.size ≤ g) (hM : (T 0).M = fun _ => none) (hl : (T 0).S.length = 20) (hd : (T 0).d = d0) (hN : (T 0).N = 0) :
    Cd18 w k m g d0 0 (List.replicate 10 false) p T W := ⟨h, hg, by simp, hw, fun y hy => absurd (by rw [hM]) hy, hl, hd, by omega⟩
/-- What is loose was meant. -/
theorem Cd18.meant (h : Cd18 w k m g d0 j B p T W) {i : Nat} {y : Int} (hy : (places (T 0).S.length (T 0).M)[i]? = some y) : ∃ q : Nat, q < 10 ∧ y.tdiv 2 = (q : Int) ∧ 0 ≤ y ∧ y < 20 ∧ B.getD q false = true := by
  have hm := List.mem_of_getElem? hy
  unfold places at hm
  rw [List.mem_map] at hm
  obtain ⟨n, hn, rfl⟩ := hm
  rw [List.mem_filter, List.mem_range] at hn
  have h1 : (T 0).M (n : Int) ≠ none := by
    have := hn.2
    intro e
    rw [e] at this
    cases this
  obtain ⟨q, hq, hy2⟩ := h.sup _ h1
  have hq10 : q < 10 := by
    have := (List.getElem?_eq_some_iff.1 hq).1
    rw [h.bl] at this
    exact this
  have hl := h.len
  refine ⟨q, hq10, ?_, by simp only [Int.ofNat_eq_natCast]; omega, by simp only [Int.ofNat_eq_natCast]; omega, by rw [List.getD_eq_getElem?_getD, hq]; rfl⟩
  simp only [Int.ofNat_eq_natCast]
  rw [Int.tdiv_eq_ediv_of_nonneg (by omega)]
  omega
end

/-- Power that is away. -/
theorem off_can {p : Pw} (h : p.on = false) : p.can = false := by simp [Pw.can, h]
theorem off_use {p : Pw} (h : p.on = false) : p.use.on = false := by
  unfold Pw.use
  rw [off_can h, if_neg (by simp)]
theorem off_go {p : Pw} (h : p.on = false) (n : Nat) : Pw.go (n + 1) p = (0, p.use) := by rw [Pw.go, off_can h, if_neg (by simp)]

end Go.Proofs.Ytmfnapbahkonhaa
