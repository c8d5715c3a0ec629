import Derived.Test.YtjollbaohopmjaaMr9W
import Derived.Test.YtjollbaohopmjaaSo8W
/- Package tree's survey over a memo: what a walk leaves as it was. -/
set_option linter.unusedVariables false
namespace Go.Proofs.Ytjollbaohopmjaa
open Go.RowKit

/-- What a survey over a memo leaves as it was: as SdY, but for the memo's map at block x. -/
def SdZ (w : World) (S B0 x k : Nat) : Prop := SdY w S B0 k ∧ k ≠ x
theorem SdZ.go {w w' : World} {S B0 x k : Nat} (h : SdZ w S B0 x k) (hk : KeptIn (SdZ w S B0 x) w w') : SdZ w' S B0 x k := by
  refine ⟨⟨Nat.lt_of_lt_of_le h.1.1 hk.size, h.1.2.1, ?_⟩, h.2⟩
  rcases h.1.2.2 with h1 | ⟨cs, T, fr, h1, h2⟩
  · exact .inl h1
  · exact .inr ⟨cs, T, fr, (hk.block k h).trans h1, h2⟩
theorem sdz_trans {a b c : World} {S B0 x : Nat} (h : KeptIn (SdZ a S B0 x) a b) (k : KeptIn (SdZ b S B0 x) b c) : KeptIn (SdZ a S B0 x) a c := h.trans (k.mono fun _ hk => hk.go h)
theorem sdz_old {a b : World} {S B0 x : Nat} (h : KeptIn (· < a.heap.size) a b) : KeptIn (SdZ a S B0 x) a b := h.mono fun _ hk => hk.1.1
theorem sdz_read {a b : World} {S B0 x : Nat} (h : KeptIn (fun j => j < a.heap.size ∧ j ≠ x) a b) : KeptIn (SdZ a S B0 x) a b := h.mono fun _ hk => ⟨hk.1.1, hk.2⟩
/-- A walk over all of a tree, in memory; the pages are u. -/
structure SvU (W : World) (S : Nat) (u : Value) (B0 : Nat) (v : Value) (ms : List Int) : Prop where
  box : W.heap[S]? = some (.cells #[u, v, .int .i64 0] 126 (0, 0))
  row : W.ownsRow B0 3 1 v ms.length (cellsI ms)
  lt : S < B0
  le : B0 ≤ W.heap.size

theorem SvU.old {W W' : World} {S B0 : Nat} {u v : Value} {ms : List Int} (h : SvU W S u B0 v ms) (hk : KeptIn (· < W.heap.size) W W') : SvU W' S u B0 v ms :=
  ⟨(hk.block S (Nat.lt_of_lt_of_le h.lt h.le)).trans h.box, rowS_block h.row fun g e => hk.block g (rowS_lt h.row g e).2, h.lt, Nat.le_trans h.le hk.size⟩
theorem SvU.noMap {W : World} {S B0 x c : Nat} {u v : Value} {ms : List Int} {N : List Nd} {M : Int → Option (Option Lf9)} (h : SvU W S u B0 v ms) (hm : IsMm W x c N M) : S ≠ x ∧ v.ownBlock ≠ some x := by
  refine ⟨hm.map.ne h.box, fun e => ?_⟩
  obtain ⟨D, ⟨es, clock, h1, _⟩, _⟩ := hm.map
  rcases h.row.2 with ⟨e2, _⟩ | ⟨g1, cap1, cur, e2, _, hg, _⟩
  · rw [e2] at e; simp [Value.ownBlock] at e
  · rw [e2] at e
    simp [Value.ownBlock] at e
    subst e
    rw [h1] at hg
    simp at hg
theorem SvU.read {W W' : World} {S B0 x c : Nat} {u v : Value} {ms : List Int} {N : List Nd} {M : Int → Option (Option Lf9)} (h : SvU W S u B0 v ms) (hm : IsMm W x c N M) (hk : KeptIn (fun j => j < W.heap.size ∧ j ≠ x) W W') : SvU W' S u B0 v ms :=
  ⟨(hk.block S ⟨Nat.lt_of_lt_of_le h.lt h.le, (h.noMap hm).1⟩).trans h.box, rowS_block h.row fun g e => hk.block g ⟨(rowS_lt h.row g e).2, fun e2 => (h.noMap hm).2 (by rw [e, e2])⟩, h.lt, Nat.le_trans h.le hk.size⟩

/-- What is kept stands while the pages met grow. -/
theorem IsMm.met {V V' : World} {S B0 x c : Nat} {N : List Nd} {M : Int → Option (Option Lf9)} {u v : Value} {ms : List Int} (h : IsMm V x c N M) (hs : SvU V S u B0 v ms) (hk : KeptIn (SdX V S v) V V') : IsMm V' x c N M := by
  refine ⟨h.map.kept hk ⟨h.lt, (hs.noMap h).1.symm, (hs.noMap h).2⟩, fun p z hz => ?_⟩
  obtain ⟨i, hi, g, cap, q1, q2, q3, q4⟩ := h.node p z hz
  obtain ⟨cs, fr, q5⟩ := q4.1
  have hg : SdX V S v g := ⟨(Array.getElem?_eq_some_iff.1 q5).1, fun e => by subst e; have := Eq.trans q5.symm hs.box; simp at this, rowS_ne hs.row q5 (by decide)⟩
  exact ⟨i, hi, g, cap, q1, q2, psAt q3 hk (fun p e => by cases e; exact hg), ⟨q4.1.kept (hk.block g hg), q4.2⟩⟩

section
variable {V V' : World} {S B0 x : Nat} {u v : Value} {ms : List Int}
theorem sdx_z {k : Nat} (h : SvU V S u B0 v ms) (hk : SdZ V S B0 x k) : SdX V S v k := by
  refine ⟨hk.1.1, hk.1.2.1, fun e => ?_⟩
  rcases hk.1.2.2 with h1 | ⟨cs, T, fr, h1, h2⟩
  · have := (rowS_lt h.row k e).1
    omega
  · exact rowS_ne h.row h1 h2 e
theorem sdz_cells {k : Nat} {T : TypeId} {cs : Array Value} {fr : Nat × Nat} {c : Nat} {N : List Nd} {M : Int → Option (Option Lf9)} (h : SvU V S u B0 v ms) (hm : IsMm V x c N M) (hb : V.heap[k]? = some (.cells cs T fr)) (h1 : T ≠ 3) (h2 : T ≠ 126) : SdZ V S B0 x k :=
  ⟨⟨(Array.getElem?_eq_some_iff.1 hb).1, fun e => by subst e; have := Eq.trans hb.symm h.box; simp only [Option.some.injEq, Obj.cells.injEq] at this; exact h2 this.2.1, .inr ⟨_, _, _, hb, h1⟩⟩, hm.map.ne hb⟩
theorem sdz_sh {s room : Nat} {N : List Nd} {D : Nat → Prop} (h : SvU V S u B0 v ms) (hsh : IsSh V s room N D) (hD : ∀ k, D k → k < S ∧ k ≠ x) (hk : KeptIn (SdZ V S B0 x) V V') : IsSh V' s room N D :=
  hsh.kept (hk.mono fun k hk => ⟨⟨hsh.lt k hk, Nat.ne_of_lt (hD k hk).1, .inl (by have := (hD k hk).1; have := h.lt; omega)⟩, (hD k hk).2⟩)
end

end Go.Proofs.Ytjollbaohopmjaa
