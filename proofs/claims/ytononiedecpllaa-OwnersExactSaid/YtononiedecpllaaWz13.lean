/- Owners: deeds that came in; what a row of deeds makes of a book: the mathematics. -/
import Derived.Test.YtononiedecpllaaOv13
set_option linter.unusedVariables false
namespace Go.Proofs.Ytononiedecpllaa
open Go.RowKit Go.Maps

/-- A slice of deeds. -/
def IsActs13 (w : World) (a : Option Addr) (len : Nat) : Prop :=
  len = 0 ∨ ∃ b off, a = some ⟨b, off, none⟩ ∧ b < w.heap.size ∧ len ≤ maxLen ∧ ∀ i, i < len → ∃ (k c : Int) (o : Ow), (Lit.int .i64 k).wf = true ∧ (Lit.int .i64 c).wf = true ∧
    w.cell? ⟨b, off + i * 5 + 0, none⟩ = some (.int .i64 k) ∧ w.cell? ⟨b, off + i * 5 + 1, none⟩ = some (.int .i64 c) ∧ w.cell? ⟨b, off + i * 5 + 2, none⟩ = some (.int .i64 o.vol) ∧ w.cell? ⟨b, off + i * 5 + 3, none⟩ = some (.int .i64 o.bir) ∧ w.cell? ⟨b, off + i * 5 + 4, none⟩ = some (.int .i64 o.pos)
theorem IsActs13.len_le {w : World} {a : Option Addr} {len : Nat} (h : IsActs13 w a len) : len ≤ maxLen := by
  rcases h with rfl | ⟨b, off, _, _, h, _⟩
  · exact Nat.zero_le _
  · exact h

/-- Each chunk has at most k owners. -/
def Few (f : Int → List Ow) (k : Nat) : Prop := ∀ c, (f c).length ≤ k
theorem Few.mono {f : Int → List Ow} {k m : Nat} (h : Few f k) (hkm : k ≤ m) : Few f m := fun c => Nat.le_trans (h c) hkm
theorem Few.add {f : Int → List Ow} {k : Nat} (h : Few f k) (c : Int) (o : Ow) : Few (addF f c o) (k + 1) := by
  intro d
  unfold addF
  split
  · unfold setF
    split
    · rw [insO_length]; have := h c; omega
    · have := h d; omega
  · have := h d; omega
theorem Few.rem {f : Int → List Ow} {k : Nat} (h : Few f k) (c : Int) (o : Ow) : Few (remF f c o) k := by
  intro d
  unfold remF
  split
  · unfold setF
    split
    · have h1 := h c
      simp only [delO, List.length_append, List.length_take, List.length_drop]
      omega
    · exact h d
  · exact h d
theorem Few.le {f : Int → List Ow} {k : Nat} (h : Few f k) (hk : k ≤ 2000) (c : Int) : (f c).length ≤ 2000 := Nat.le_trans (h c) hk

theorem addE_ok {f : Int → List Ow} {c : Int} {o : Ow} (h1 : 1 ≤ c) (h2 : c ≤ 1023) (h : o ∉ f c) : addE f c o = 0 ∧ addF f c o = setF f c (insO (f c) o) := by
  have e : addE f c o = 0 := by unfold addE; rw [if_neg (by omega), if_neg h]
  exact ⟨e, by unfold addF; rw [if_pos e]⟩
theorem insO_nil (o : Ow) : insO [] o = [o] := rfl
theorem delO_one (o : Ow) : delO [o] o = [] := by
  unfold delO
  rw [plO_cons, if_neg (ltO_irr o)]
  rfl
theorem setF_setF {α : Type} (f : Int → α) (c : Int) (x y : α) : setF (setF f c x) c y = setF f c y := by
  funext d
  unfold setF
  split <;> rfl
theorem setF_back {α : Type} (f : Int → α) (c : Int) (x y : α) (h : f c = y) : setF (setF f c x) c y = f := by
  rw [setF_setF, ← h, setF_self]

end Go.Proofs.Ytononiedecpllaa
