/- ChunkExact: a Deck, the document's, and a deed in its box, side by side. -/
import Derived.Test.YtmfnapbahkonhaaRn18
import Derived.Test.YtmfnapbahkonhaaAw18
set_option linter.unusedVariables false
namespace Go.Proofs.Ytmfnapbahkonhaa
open Go.RowKit

/-- A deed. -/
structure A18 where
  kd : Int
  a : Sp
  c : Sp
  at' : Int
  n : Int
  b : UInt8
def BoxA18 (y : Nat) (x : A18) (W : World) : Prop := W.heap[y]? = some (.cells #[.int .i64 x.kd, .int .i64 x.a.ti, .int .i64 x.a.sl, .int .i64 x.c.ti, .int .i64 x.c.sl, .int .i64 x.at', .int .i64 x.n, .int .u8 x.b.toNat] 38 (0, 0))
structure CelA18 (y : Nat) (x : A18) (W : World) : Prop where
  c0 : W.cell? ⟨y, 0, none⟩ = some (.int .i64 x.kd)
  c1 : W.cell? ⟨y, 1, none⟩ = some (.int .i64 x.a.ti)
  c2 : W.cell? ⟨y, 2, none⟩ = some (.int .i64 x.a.sl)
  c3 : W.cell? ⟨y, 3, none⟩ = some (.int .i64 x.c.ti)
  c4 : W.cell? ⟨y, 4, none⟩ = some (.int .i64 x.c.sl)
  c5 : W.cell? ⟨y, 5, none⟩ = some (.int .i64 x.at')
  c6 : W.cell? ⟨y, 6, none⟩ = some (.int .i64 x.n)
  c7 : W.cell? ⟨y, 7, none⟩ = some (.int .u8 x.b.toNat)
theorem BoxA18.cel {y : Nat} {x : A18} {W : World} (h : BoxA18 y x W) : CelA18 y x W :=
  ⟨(cell_of_row _ _ 0 _ _ _ h).trans rfl, (cell_of_row _ _ 1 _ _ _ h).trans rfl, (cell_of_row _ _ 2 _ _ _ h).trans rfl, (cell_of_row _ _ 3 _ _ _ h).trans rfl, (cell_of_row _ _ 4 _ _ _ h).trans rfl, (cell_of_row _ _ 5 _ _ _ h).trans rfl, (cell_of_row _ _ 6 _ _ _ h).trans rfl, (cell_of_row _ _ 7 _ _ _ h).trans rfl⟩
theorem BoxA18.lt {y : Nat} {x : A18} {W : World} (h : BoxA18 y x W) : y < W.heap.size := (Array.getElem?_eq_some_iff.1 h).1
theorem BoxA18.old {y : Nat} {x : A18} {W W' : World} (h : BoxA18 y x W) (hk : KeptIn (· < W.heap.size) W W') : BoxA18 y x W' := (hk.block y h.lt).trans h

/-- A Deck (k) and the document's (u), the devices at D with L sectors each. -/
structure Ex18 (w : World) (k m u sz b : Nat) (D L : Nat → Nat) (p : Pw) (T : Nat → Dsk) (V : Nat → Value) (F : Nat → List (List UInt8)) (W : World) : Prop where
  lw : Lw18 w k m sz p T W
  iu : IsU18 w.heap.size u sz V F W
  fr : p.free
  nn : ∀ t, t < 2 → (T t).N ≤ b
  fl : ∀ t, t < 2 → (F t).length = (T t).S.length
  f16 : ∀ t, t < 2 → ∀ x ∈ F t, x.length = 16
  hd : ∀ t, t < 2 → (T t).d = D t
  hl : ∀ t, t < 2 → (T t).S.length = L t

section
variable {w : World} {k m u sz b : Nat} {D L : Nat → Nat} {p : Pw} {T : Nat → Dsk} {V : Nat → Value} {F : Nat → List (List UInt8)} {W W' : World}
theorem Ex18.old (h : Ex18 w k m u sz b D L p T V F W) (hk : KeptIn (· < W.heap.size) W W') : Ex18 w k m u sz b D L p T V F W' :=
  ⟨h.lw.old hk, h.iu.old hk, h.fr, h.nn, h.fl, h.f16, h.hd, h.hl⟩
theorem Ex18.le (h : Ex18 w k m u sz b D L p T V F W) {b' : Nat} (hb : b ≤ b') : Ex18 w k m u sz b' D L p T V F W := ⟨h.lw, h.iu, h.fr, fun t ht => Nat.le_trans (h.nn t ht) hb, h.fl, h.f16, h.hd, h.hl⟩
theorem Ex18.farU (h : Ex18 w k m u sz b D L p T V F W) : k ≠ u ∧ m ≠ u ∧ ∀ t, t < 2 → (T t).d ≠ u ∧ (T t).s ≠ u ∧ (T t).b ≠ u := h.lw.dk.far h.iu.hu (by decide) (by decide) (by decide) (by decide)
theorem Ex18.farR (h : Ex18 w k m u sz b D L p T V F W) {i : Nat} (hi : i < 2) (g : Nat) (e : (V i).ownBlock = some g) : k ≠ g ∧ m ≠ g ∧ ∀ t, t < 2 → (T t).d ≠ g ∧ (T t).s ≠ g ∧ (T t).b ≠ g := by
  obtain ⟨_, _, cs, hc⟩ := rowA_at (h.iu.row i hi) g e
  exact h.lw.dk.far hc (by decide) (by decide) (by decide) (by decide)
/-- The deed's box is none of theirs. -/
theorem Ex18.farY (h : Ex18 w k m u sz b D L p T V F W) {y : Nat} {x : A18} (hy : BoxA18 y x W) : y ≠ m ∧ (∀ t, t < 2 → y ≠ (T t).s ∧ y ≠ (T t).b) ∧ ∀ t, t < 2 → (V t).ownBlock ≠ some y := by
  obtain ⟨_, f2, f3⟩ := h.lw.dk.far hy (by decide) (by decide) (by decide) (by decide)
  refine ⟨f2.symm, fun t ht => ⟨(f3 t ht).2.1.symm, (f3 t ht).2.2.symm⟩, fun t ht => row_ne (h.iu.row t ht) hy (by decide)⟩
/-- Sectors were written to a device. -/
theorem Ex18.wr (h : Ex18 w k m u sz b D L p T V F W) {t j g : Nat} {l : List UInt8} (ht : t < 2) (hw : Wr18 k m sz p T t j g l W W') :
    Ex18 w k m u sz (b + j) D L (Pw.go j p).2 (upT T t ((T t).wr j (g : Int) l j)) V F W' := by
  obtain ⟨h1, h2⟩ := go_free j p h.fr
  have hlw := h.lw.wr ht hw
  rw [h1] at hlw
  have hz : ∀ i, (upT T t ((T t).wr j (g : Int) l j) i).S = (T i).S := fun i => by
    unfold upT; split
    · rename_i e; rw [e]; rfl
    · rfl
  have hdd : ∀ i, (upT T t ((T t).wr j (g : Int) l j) i).d = (T i).d := fun i => by
    unfold upT; split
    · rename_i e; rw [e]; rfl
    · rfl
  refine ⟨hlw, h.iu.kept hw.2 ⟨h.iu.lt, h.farU.2.1.symm, (h.farU.2.2 t ht).2.2.symm⟩ fun i hi g2 e => ⟨(rowA_at (h.iu.row i hi) g2 e).2.1, (h.farR hi g2 e).2.1.symm, ((h.farR hi g2 e).2.2 t ht).2.2.symm⟩, h2, fun i hi => ?_, fun i hi => by rw [hz]; exact h.fl i hi, h.f16, fun i hi => by rw [hdd]; exact h.hd i hi, fun i hi => by rw [hz]; exact h.hl i hi⟩
  by_cases e : i = t
  · subst e; rw [upT_self]; have := h.nn i hi; show (T i).N + j ≤ _; omega
  · rw [upT_ne _ _ _ _ e]; have := h.nn i hi; omega
theorem BoxA18.wr {y : Nat} {x : A18} (hy : BoxA18 y x W) (h : Ex18 w k m u sz b D L p T V F W) {t j g : Nat} {l : List UInt8} (ht : t < 2) (hw : Wr18 k m sz p T t j g l W W') : BoxA18 y x W' := by
  obtain ⟨f1, f2, _⟩ := h.farY hy
  exact (hw.2.block y ⟨hy.lt, f1, (f2 t ht).2⟩).trans hy
/-- A device was flushed. -/
theorem Ex18.fl2 (h : Ex18 w k m u sz b D L p T V F W) {t : Nat} (ht : t < 2) (h1 : Dck k m sz p.use (upT T t (T t).fl) W') (hk : KeptIn (fun x => x < W.heap.size ∧ x ≠ m ∧ x ≠ (T t).s ∧ x ≠ (T t).b) W W') :
    Ex18 w k m u sz b D L p.use (upT T t (T t).fl) V F W' := by
  have hz : ∀ i, (upT T t (T t).fl i).S.length = (T i).S.length := fun i => by
    unfold upT; split
    · rename_i e; rw [e]; simp [Dsk.fl, flushed]
    · rfl
  have hdd : ∀ i, (upT T t (T t).fl i).d = (T i).d := fun i => by
    unfold upT; split
    · rename_i e; rw [e]; rfl
    · rfl
  refine ⟨h.lw.fl ht h1 hk, h.iu.kept hk ⟨h.iu.lt, h.farU.2.1.symm, (h.farU.2.2 t ht).2.1.symm, (h.farU.2.2 t ht).2.2.symm⟩ fun i hi g2 e => ⟨(rowA_at (h.iu.row i hi) g2 e).2.1, (h.farR hi g2 e).2.1.symm, ((h.farR hi g2 e).2.2 t ht).2.1.symm, ((h.farR hi g2 e).2.2 t ht).2.2.symm⟩, h.fr.use, fun i hi => ?_, fun i hi => by rw [hz]; exact h.fl i hi, h.f16, fun i hi => by rw [hdd]; exact h.hd i hi, fun i hi => by rw [hz]; exact h.hl i hi⟩
  by_cases e : i = t
  · subst e; rw [upT_self]; exact Nat.zero_le _
  · rw [upT_ne _ _ _ _ e]; exact h.nn i hi
theorem BoxA18.fl2 {y : Nat} {x : A18} (hy : BoxA18 y x W) (h : Ex18 w k m u sz b D L p T V F W) {t : Nat} (ht : t < 2) (hk : KeptIn (fun x => x < W.heap.size ∧ x ≠ m ∧ x ≠ (T t).s ∧ x ≠ (T t).b) W W') : BoxA18 y x W' := by
  obtain ⟨f1, f2, _⟩ := h.farY hy
  exact (hk.block y ⟨hy.lt, f1, (f2 t ht).1, (f2 t ht).2⟩).trans hy
/-- The document's row was changed. -/
theorem Ex18.put (h : Ex18 w k m u sz b D L p T V F W) {t : Nat} {F' : Nat → List (List UInt8)} (ht : t < 2) (hi : IsU18 w.heap.size u sz V F' W') (hk : KeptIn (fun x => x < W.heap.size ∧ (V t).ownBlock ≠ some x) W W')
    (hl : ∀ i, i < 2 → (F' i).length = (F i).length) (h16 : ∀ i, i < 2 → ∀ x ∈ F' i, x.length = 16) : Ex18 w k m u sz b D L p T V F' W' := by
  have hd := h.lw.dk
  have f : ∀ x, (∀ g, (V t).ownBlock = some g → x ≠ g) → (V t).ownBlock ≠ some x := fun x hx e => hx x e rfl
  have hz := h.lw.kept.size
  exact ⟨⟨hd.kept hk ⟨hd.lt, f _ fun g e => (h.farR ht g e).1⟩ ⟨hd.isP.lt, f _ fun g e => (h.farR ht g e).2.1⟩ fun i hi => ⟨⟨(hd.isD i hi).ltd, f _ fun g e => ((h.farR ht g e).2.2 i hi).1⟩, ⟨(hd.isD i hi).lts, f _ fun g e => ((h.farR ht g e).2.2 i hi).2.1⟩, ⟨(hd.isD i hi).ltb, f _ fun g e => ((h.farR ht g e).2.2 i hi).2.2⟩⟩, h.lw.lm, h.lw.ls, h.lw.kept.trans (hk.mono fun x hx => ⟨by omega, f _ fun g e => by have := (rowA_at (h.iu.row t ht) g e).1; omega⟩)⟩, hi, h.fr, h.nn, fun i hi => by rw [hl i hi]; exact h.fl i hi, h16, h.hd, h.hl⟩
theorem BoxA18.put {y : Nat} {x : A18} (hy : BoxA18 y x W) (h : Ex18 w k m u sz b D L p T V F W) {t : Nat} (ht : t < 2) (hk : KeptIn (fun x => x < W.heap.size ∧ (V t).ownBlock ≠ some x) W W') : BoxA18 y x W' :=
  (hk.block y ⟨hy.lt, (h.farY hy).2.2 t ht⟩).trans hy
theorem putF_16 {X : List (List UInt8)} {p : Nat} {l : List UInt8} (h : ∀ x ∈ X, x.length = 16) : ∀ n, l.length = 16 * n → ∀ j, j ≤ n → ∀ x ∈ putF X p l j, x.length = 16 := by
  intro n hl j
  induction j with
  | zero => exact fun _ => h
  | succ j ih =>
    intro hj x hx
    rw [putF] at hx
    rcases List.mem_or_eq_of_mem_set hx with h1 | h1
    · exact ih (by omega) x h1
    · rw [h1]; exact nth_length l j (by omega)
/-- Both say the same. -/
def Sy18 (T : Nat → Dsk) (F : Nat → List (List UInt8)) : Prop := ∀ t, t < 2 → F t = (T t).now
theorem Sy18.put {T : Nat → Dsk} {F : Nat → List (List UInt8)} (h : Sy18 T F) {t g n : Nat} {l : List UInt8} (ht : t < 2) : Sy18 (upT T t ((T t).wr n (g : Int) l n)) (upN F t (putF (F t) g l n)) := fun i hi => by
  by_cases e : i = t
  · subst e
    rw [upT_self, upN_self, h i hi]
    exact putF_now _ _ _ _ _
  · rw [upT_ne _ _ _ _ e, upN_ne _ _ _ _ e]
    exact h i hi
theorem Sy18.fl {T : Nat → Dsk} {F : Nat → List (List UInt8)} (h : Sy18 T F) {t : Nat} : Sy18 (upT T t (T t).fl) F := fun i hi => by
  rw [h i hi]
  by_cases e : i = t
  · subst e
    rw [upT_self]
    exact (flushed_none (S := flushed (T i).S (T i).M)).symm
  · rw [upT_ne _ _ _ _ e]
/-- What a chunk has. -/
theorem Ex18.get (h : Ex18 w k m u sz b D L p T V F W) (hs : Sy18 T F) {t s : Nat} (ht : t < 2) (hsl : s < slN T sz t) : (((F t).drop (s * sz)).take sz).flatten = nows (T t).S (T t).M (s * sz) sz := by
  rw [hs t ht]
  exact (nows_slice _ _ (slN_fits hsl)).symm
end

end Go.Proofs.Ytmfnapbahkonhaa
