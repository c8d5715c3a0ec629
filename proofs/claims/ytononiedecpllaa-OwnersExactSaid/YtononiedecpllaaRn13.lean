/- Rows of chunks and owners in memory: their cells. -/
import Derived.Test.YtononiedecpllaaLn13
set_option linter.unusedVariables false
namespace Go.Proofs.Ytononiedecpllaa
open Go.RowKit

theorem infoOn : (Try.prog.info? 35).map (fun i => (i.zero, i.size, i.bytes)) = some (some (.agg #[.int .i64 0, .int .i64 0, .int .i64 0, .int .i64 0]), 4, 32) := by kernel_rfl

/-- The cells of a row. -/
def cellsN : List On → List Value
  | [] => []
  | x :: r => .int .i64 x.ch :: .int .i64 x.ow.vol :: .int .i64 x.ow.bir :: .int .i64 x.ow.pos :: cellsN r

theorem cellsN_length (l : List On) : (cellsN l).length = l.length * 4 := by
  induction l with
  | nil => rfl
  | cons p r ih => simp only [cellsN, List.length_cons, ih]; omega
theorem cellsN_append (a b : List On) : cellsN (a ++ b) = cellsN a ++ cellsN b := by
  induction a with
  | nil => rfl
  | cons p r ih => rw [List.cons_append, cellsN, ih, cellsN]; rfl
theorem cellsN_one (l : List On) : ∀ u ∈ cellsN l, u.oneCell' = true := by
  induction l with
  | nil => intro u h; cases h
  | cons p r ih =>
    intro u h
    rcases List.mem_cons.1 h with rfl | h
    · rfl
    rcases List.mem_cons.1 h with rfl | h
    · rfl
    rcases List.mem_cons.1 h with rfl | h
    · rfl
    rcases List.mem_cons.1 h with rfl | h
    · rfl
    exact ih u h
theorem cellsN_at {l : List On} : ∀ {i : Nat} {x : On}, l[i]? = some x → (cellsN l)[i * 4]? = some (.int .i64 x.ch) ∧ (cellsN l)[i * 4 + 1]? = some (.int .i64 x.ow.vol) ∧ (cellsN l)[i * 4 + 2]? = some (.int .i64 x.ow.bir) ∧ (cellsN l)[i * 4 + 3]? = some (.int .i64 x.ow.pos) := by
  induction l with
  | nil => intro i x h; simp at h
  | cons p r ih =>
    intro i x h
    cases i with
    | zero => simp at h; subst h; exact ⟨rfl, rfl, rfl, rfl⟩
    | succ i =>
      obtain ⟨h1, h2, h3, h4⟩ := ih (i := i) (x := x) (by simpa using h)
      rw [show (i + 1) * 4 = i * 4 + 4 by omega]
      exact ⟨h1, h2, h3, h4⟩

/-- A slice's value is a row of somebody's own, in a block not below B. -/
def RowN (W : World) (B : Nat) (v : Value) (l : List On) : Prop := W.ownsRow B 35 4 v l.length (cellsN l)
theorem RowN.nil (W : World) (B : Nat) : RowN W B (.slice none 0 0) [] := ⟨rfl, .inl ⟨rfl, rfl⟩⟩
/-- What it looks like. -/
theorem RowN.form {W : World} {B : Nat} {v : Value} {l : List On} (h : RowN W B v l) : (v = .slice none 0 0 ∧ l = []) ∨
    ∃ g cap cur, v = .slice (some ⟨g, 0, none⟩) l.length cap ∧ B ≤ g ∧ W.heap[g]? = some (.cells cur 35 (0, 0)) ∧ l.length ≤ cap ∧ cap ≤ maxLen ∧ cur.size = cap * 4 ∧ cur.toList.take (l.length * 4) = cellsN l := by
  rcases h.2 with ⟨e, h0⟩ | h
  · exact .inl ⟨e, List.length_eq_zero_iff.1 h0⟩
  · exact .inr h
theorem RowN.shape {W : World} {B : Nat} {v : Value} {l : List On} (h : RowN W B v l) : ∃ a cap, v = .slice a l.length cap ∧ l.length ≤ cap ∧ cap ≤ maxLen := by
  rcases h.form with ⟨rfl, rfl⟩ | ⟨g, cap, cur, rfl, _, _, h1, h2, _⟩
  · exact ⟨none, 0, rfl, Nat.le_refl _, Nat.zero_le _⟩
  · exact ⟨_, cap, rfl, h1, h2⟩
theorem RowN.mono {W : World} {B B' : Nat} {v : Value} {l : List On} (h : RowN W B v l) (hB : B' ≤ B) : RowN W B' v l := by
  refine ⟨h.1, ?_⟩
  rcases h.2 with h1 | ⟨g, cap, cur, rfl, hg, r⟩
  · exact .inl h1
  · exact .inr ⟨g, cap, cur, rfl, Nat.le_trans hB hg, r⟩
theorem RowN.block {W W' : World} {B : Nat} {v : Value} {l : List On} (h : RowN W B v l) (hb : ∀ g, v.ownBlock = some g → W'.heap[g]? = W.heap[g]?) : RowN W' B v l := by
  refine ⟨h.1, ?_⟩
  rcases h.2 with h1 | ⟨g, cap, cur, rfl, hg, hc, r⟩
  · exact .inl h1
  · exact .inr ⟨g, cap, cur, rfl, hg, (hb g rfl).trans hc, r⟩
theorem RowN.lt {W : World} {B g : Nat} {v : Value} {l : List On} (h : RowN W B v l) (hv : v.ownBlock = some g) : B ≤ g ∧ g < W.heap.size := by
  rcases h.form with ⟨rfl, rfl⟩ | ⟨g', cap, cur, rfl, hB, hc, _⟩
  · cases hv
  · obtain rfl : g' = g := by simpa [Value.ownBlock] using hv
    exact ⟨hB, (Array.getElem?_eq_some_iff.1 hc).1⟩
theorem RowN.kept {X : Nat → Prop} {W W' : World} {B : Nat} {v : Value} {l : List On} (h : RowN W B v l) (hk : KeptIn X W W') (hX : ∀ g, v.ownBlock = some g → X g) : RowN W' B v l :=
  h.block fun g hg => hk.block g (hX g hg)
theorem RowN.old {W W' : World} {B : Nat} {v : Value} {l : List On} (h : RowN W B v l) (hk : KeptIn (· < W.heap.size) W W') : RowN W' B v l :=
  h.kept hk fun g hg => (h.lt hg).2
theorem RowN.typ {W : World} {B g : Nat} {v : Value} {l : List On} (h : RowN W B v l) (hv : v.ownBlock = some g) : ∃ cur, W.heap[g]? = some (.cells cur 35 (0, 0)) := by
  rcases h.form with ⟨rfl, rfl⟩ | ⟨g', cap, cur, rfl, hB, hc, _⟩
  · cases hv
  · obtain rfl : g' = g := by simpa [Value.ownBlock] using hv
    exact ⟨cur, hc⟩
/-- The cells of an element. -/
theorem RowN.at {W : World} {B n cap : Nat} {a : Option Addr} {l : List On} (h : RowN W B (.slice a n cap) l) {i : Nat} {x : On} (hi : l[i]? = some x) :
    ∃ g, a = some ⟨g, 0, none⟩ ∧ g < W.heap.size ∧ W.cell? ⟨g, i * 4, none⟩ = some (.int .i64 x.ch) ∧ W.cell? ⟨g, i * 4 + 1, none⟩ = some (.int .i64 x.ow.vol) ∧ W.cell? ⟨g, i * 4 + 2, none⟩ = some (.int .i64 x.ow.bir) ∧ W.cell? ⟨g, i * 4 + 3, none⟩ = some (.int .i64 x.ow.pos) := by
  rcases h.form with ⟨_, rfl⟩ | ⟨g, cap', cur, e, hB, hc, h1, h2, h3, h4⟩
  · simp at hi
  · simp only [Value.slice.injEq] at e
    obtain ⟨rfl, _, _⟩ := e
    obtain ⟨c1, c2, c3, c4⟩ := cellsN_at hi
    have get : ∀ j u, (cellsN l)[j]? = some u → W.cell? ⟨g, j, none⟩ = some u := fun j u hu => by
      rw [← h4, List.getElem?_take] at hu
      split at hu
      · simp [World.cell?, hc, ← hu]
      · cases hu
    exact ⟨g, rfl, (Array.getElem?_eq_some_iff.1 hc).1, get _ _ c1, get _ _ c2, get _ _ c3, get _ _ c4⟩

/-- One in a box. -/
def BoxN (y : Nat) (x : On) (W : World) : Prop := W.heap[y]? = some (.cells #[.int .i64 x.ch, .int .i64 x.ow.vol, .int .i64 x.ow.bir, .int .i64 x.ow.pos] 35 (0, 0))
theorem BoxN.lt {y : Nat} {x : On} {W : World} (h : BoxN y x W) : y < W.heap.size := (Array.getElem?_eq_some_iff.1 h).1
theorem BoxN.kept {X : Nat → Prop} {y : Nat} {x : On} {W W' : World} (h : BoxN y x W) (hk : KeptIn X W W') (hX : X y) : BoxN y x W' := (hk.block y hX).trans h
theorem BoxN.old {y : Nat} {x : On} {W W' : World} (h : BoxN y x W) (hk : KeptIn (· < W.heap.size) W W') : BoxN y x W' := h.kept hk h.lt
theorem BoxN.new (w : World) (x : On) : BoxN w.heap.size x (w.alloc (.cells #[.int .i64 x.ch, .int .i64 x.ow.vol, .int .i64 x.ow.bir, .int .i64 x.ow.pos] 35)) := heap_alloc_new _ _
theorem BoxN.cells {y : Nat} {x : On} {W : World} (h : BoxN y x W) : W.cell? ⟨y, 0, none⟩ = some (.int .i64 x.ch) ∧ W.cell? ⟨y, 1, none⟩ = some (.int .i64 x.ow.vol) ∧ W.cell? ⟨y, 2, none⟩ = some (.int .i64 x.ow.bir) ∧ W.cell? ⟨y, 3, none⟩ = some (.int .i64 x.ow.pos) := by
  unfold BoxN at h
  exact ⟨by simp [World.cell?, h], by simp [World.cell?, h], by simp [World.cell?, h], by simp [World.cell?, h]⟩

theorem eqInOwD (d : Nat) (a1 a2 a3 b1 b2 b3 : Int) (w : World) : (Op.equalIn (d + 2) 31 (.agg #[.int .i64 a1, .int .i64 a2, .int .i64 a3]) (.agg #[.int .i64 b1, .int .i64 b2, .int .i64 b3])).run Try.prog w = .ok (decide (a1 = b1) && (decide (a2 = b2) && decide (a3 = b3))) w := by
  have u3 := Try.underlying3
  have hS : Try.prog.underlying 31 = some (.struct (Try.prog.fieldsOf 31)) := by kernel_rfl
  have hp : Try.prog.stoodInHeld 31 = false := by kernel_rfl
  rw [run_equalIn_agg w (d + 1) 31 _ _ hS hp]
  simp only [Program.fieldsOf, Try.underlying31]
  go_simp
  by_cases h1 : a1 = b1 <;> by_cases h2 : a2 = b2 <;> by_cases h3 : a3 = b3 <;> simp [h1, h2, h3]

/-- '==' of them. -/
theorem eqOn (a b : On) (w : World) : (binOp .eql 35 (onV a) (onV b)).run Try.prog w = .ok (.bool (decide (a = b))) w := by
  have u3 := Try.underlying3
  have hS : Try.prog.underlying 35 = some (.struct (Try.prog.fieldsOf 35)) := by kernel_rfl
  have hp : Try.prog.stoodInHeld 35 = false := by kernel_rfl
  have hd : decide (a = b) = (decide (a.ch = b.ch) && (decide (a.ow.vol = b.ow.vol) && (decide (a.ow.bir = b.ow.bir) && decide (a.ow.pos = b.ow.pos)))) := by
    rw [← Bool.decide_and, ← Bool.decide_and, ← Bool.decide_and]
    exact decide_eq_decide.2 (by
      obtain ⟨a1, a2, a3, a4⟩ := a
      obtain ⟨b1, b2, b3, b4⟩ := b
      simp)
  rw [hd]
  simp only [onV]
  rw [run_eql_struct, show (10000 : Nat) = 9999 + 1 from rfl, run_equalIn_agg w 9999 35 _ _ hS hp]
  simp only [Program.fieldsOf, Try.underlying35]
  have hin := fun w => eqInOwD 9997 a.ow.vol a.ow.bir a.ow.pos b.ow.vol b.ow.bir b.ow.pos w
  simp only [show (9997 : Nat) + 2 = 9999 from rfl] at hin
  simp only [Op.eqFields]
  go_simp
  by_cases h1 : a.ch = b.ch <;> by_cases h2 : a.ow.vol = b.ow.vol <;> by_cases h3 : a.ow.bir = b.ow.bir <;> by_cases h4 : a.ow.pos = b.ow.pos <;> simp [h1, h2, h3, h4]
theorem neqOn (a b : On) (w : World) : (binOp .neq 35 (onV a) (onV b)).run Try.prog w = .ok (.bool (!decide (a = b))) w := by
  have h := eqOn a b w
  simp only [onV] at h ⊢
  rw [run_eql_struct] at h
  rw [run_neq_struct]
  cases hq : (Op.equalIn 10000 35 (.agg #[.int .i64 a.ch, .int .i64 a.ow.vol, .int .i64 a.ow.bir, .int .i64 a.ow.pos]) (.agg #[.int .i64 b.ch, .int .i64 b.ow.vol, .int .i64 b.ow.bir, .int .i64 b.ow.pos])).run Try.prog w with
  | ok x w' =>
    rw [hq] at h
    simp only [Result.andThen_ok, Result.ok.injEq, Value.bool.injEq] at h
    rw [h.1, h.2]
    rfl
  | _ => rw [hq] at h; simp [Result.andThen] at h

end Go.Proofs.Ytononiedecpllaa
