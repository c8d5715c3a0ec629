/- Rows of owners in memory: their cells, copies of elements of any size, what an append leaves. -/
import Derived.Test.YtononiedecpllaaOw13
import Derived.Test.YtononiedecpllaaChecked
import Derived.OwnWalk
import Derived.Deep.AppendLies
import Derived.Lib.Overlaps
import Derived.Laws.CopyOwn
import Derived.Lib.AppendZeros
import Derived.Lib.SliceRun
set_option linter.unusedVariables false
namespace Go.Proofs.Ytononiedecpllaa
open Go.RowKit

theorem infoOw : (Try.prog.info? 31).map (fun i => (i.zero, i.size, i.bytes)) = some (some (.agg #[.int .i64 0, .int .i64 0, .int .i64 0]), 3, 24) := by kernel_rfl

/-- An owner as a value, and its cells. -/
def ownV (o : Ow) : Value := .agg #[.int .i64 o.vol, .int .i64 o.bir, .int .i64 o.pos]
def cellsOw (o : Ow) : List Value := [.int .i64 o.vol, .int .i64 o.bir, .int .i64 o.pos]
def cellsO : List Ow → List Value
  | [] => []
  | o :: r => .int .i64 o.vol :: .int .i64 o.bir :: .int .i64 o.pos :: cellsO r

theorem cellsO_length (l : List Ow) : (cellsO l).length = l.length * 3 := by
  induction l with
  | nil => rfl
  | cons p r ih => simp only [cellsO, List.length_cons, ih]; omega
theorem cellsO_append (a b : List Ow) : cellsO (a ++ b) = cellsO a ++ cellsO b := by
  induction a with
  | nil => rfl
  | cons p r ih => rw [List.cons_append, cellsO, ih, cellsO]; rfl
theorem cellsO_one (l : List Ow) : ∀ u ∈ cellsO l, u.oneCell' = true := by
  induction l with
  | nil => intro u h; cases h
  | cons p r ih =>
    intro u h
    rcases List.mem_cons.1 h with rfl | h
    · rfl
    rcases List.mem_cons.1 h with rfl | h
    · rfl
    rcases List.mem_cons.1 h with rfl | h
    · rfl
    exact ih u h
theorem cellsO_at {l : List Ow} : ∀ {i : Nat} {o : Ow}, l[i]? = some o → (cellsO l)[i * 3]? = some (.int .i64 o.vol) ∧ (cellsO l)[i * 3 + 1]? = some (.int .i64 o.bir) ∧ (cellsO l)[i * 3 + 2]? = some (.int .i64 o.pos) := by
  induction l with
  | nil => intro i o h; simp at h
  | cons p r ih =>
    intro i o h
    cases i with
    | zero => simp at h; subst h; exact ⟨rfl, rfl, rfl⟩
    | succ i =>
      obtain ⟨h1, h2, h3⟩ := ih (i := i) (o := o) (by simpa using h)
      rw [show (i + 1) * 3 = i * 3 + 3 by omega]
      exact ⟨h1, h2, h3⟩
theorem cellsO_take (l : List Ow) (i : Nat) : (cellsO l).take (i * 3) = cellsO (l.take i) := by
  induction l generalizing i with
  | nil => simp [cellsO]
  | cons p r ih =>
    cases i with
    | zero => simp [cellsO]
    | succ i =>
      rw [show (i + 1) * 3 = i * 3 + 3 by omega]
      simp only [cellsO, List.take_succ_cons, ih]
theorem cellsO_drop (l : List Ow) (i : Nat) : (cellsO l).drop (i * 3) = cellsO (l.drop i) := by
  induction l generalizing i with
  | nil => simp [cellsO]
  | cons p r ih =>
    cases i with
    | zero => simp
    | succ i =>
      rw [show (i + 1) * 3 = i * 3 + 3 by omega]
      simp only [cellsO, List.drop_succ_cons, ih]

/-- A slice's value is a row of owners of somebody's own, in a block not below B. -/
def RowO (W : World) (B : Nat) (v : Value) (l : List Ow) : Prop := W.ownsRow B 31 3 v l.length (cellsO l)
theorem RowO.nil (W : World) (B : Nat) : RowO W B (.slice none 0 0) [] := ⟨rfl, .inl ⟨rfl, rfl⟩⟩
/-- What it looks like. -/
theorem RowO.form {W : World} {B : Nat} {v : Value} {l : List Ow} (h : RowO W B v l) : (v = .slice none 0 0 ∧ l = []) ∨
    ∃ g cap cur, v = .slice (some ⟨g, 0, none⟩) l.length cap ∧ B ≤ g ∧ W.heap[g]? = some (.cells cur 31 (0, 0)) ∧ l.length ≤ cap ∧ cap ≤ maxLen ∧ cur.size = cap * 3 ∧ cur.toList.take (l.length * 3) = cellsO l := by
  rcases h.2 with ⟨e, h0⟩ | h
  · exact .inl ⟨e, List.length_eq_zero_iff.1 h0⟩
  · exact .inr h
theorem RowO.shape {W : World} {B : Nat} {v : Value} {l : List Ow} (h : RowO W B v l) : ∃ a cap, v = .slice a l.length cap ∧ l.length ≤ cap ∧ cap ≤ maxLen := by
  rcases h.form with ⟨rfl, rfl⟩ | ⟨g, cap, cur, rfl, _, _, h1, h2, _⟩
  · exact ⟨none, 0, rfl, Nat.le_refl _, Nat.zero_le _⟩
  · exact ⟨_, cap, rfl, h1, h2⟩
theorem RowO.mono {W : World} {B B' : Nat} {v : Value} {l : List Ow} (h : RowO W B v l) (hB : B' ≤ B) : RowO W B' v l := by
  refine ⟨h.1, ?_⟩
  rcases h.2 with h1 | ⟨g, cap, cur, rfl, hg, r⟩
  · exact .inl h1
  · exact .inr ⟨g, cap, cur, rfl, Nat.le_trans hB hg, r⟩
theorem RowO.block {W W' : World} {B : Nat} {v : Value} {l : List Ow} (h : RowO W B v l) (hb : ∀ g, v.ownBlock = some g → W'.heap[g]? = W.heap[g]?) : RowO W' B v l := by
  refine ⟨h.1, ?_⟩
  rcases h.2 with h1 | ⟨g, cap, cur, rfl, hg, hc, r⟩
  · exact .inl h1
  · exact .inr ⟨g, cap, cur, rfl, hg, (hb g rfl).trans hc, r⟩
theorem RowO.lt {W : World} {B g : Nat} {v : Value} {l : List Ow} (h : RowO W B v l) (hv : v.ownBlock = some g) : B ≤ g ∧ g < W.heap.size := by
  rcases h.form with ⟨rfl, rfl⟩ | ⟨g', cap, cur, rfl, hB, hc, _⟩
  · cases hv
  · obtain rfl : g' = g := by simpa [Value.ownBlock] using hv
    exact ⟨hB, (Array.getElem?_eq_some_iff.1 hc).1⟩
theorem RowO.kept {X : Nat → Prop} {W W' : World} {B : Nat} {v : Value} {l : List Ow} (h : RowO W B v l) (hk : KeptIn X W W') (hX : ∀ g, v.ownBlock = some g → X g) : RowO W' B v l :=
  h.block fun g hg => hk.block g (hX g hg)
theorem RowO.old {W W' : World} {B : Nat} {v : Value} {l : List Ow} (h : RowO W B v l) (hk : KeptIn (· < W.heap.size) W W') : RowO W' B v l :=
  h.kept hk fun g hg => (h.lt hg).2
theorem RowO.typ {W : World} {B g : Nat} {v : Value} {l : List Ow} (h : RowO W B v l) (hv : v.ownBlock = some g) : ∃ cur, W.heap[g]? = some (.cells cur 31 (0, 0)) := by
  rcases h.form with ⟨rfl, rfl⟩ | ⟨g', cap, cur, rfl, hB, hc, _⟩
  · cases hv
  · obtain rfl : g' = g := by simpa [Value.ownBlock] using hv
    exact ⟨cur, hc⟩
/-- The cells of an element. -/
theorem RowO.at {W : World} {B n cap : Nat} {a : Option Addr} {l : List Ow} (h : RowO W B (.slice a n cap) l) {i : Nat} {o : Ow} (hi : l[i]? = some o) :
    ∃ g, a = some ⟨g, 0, none⟩ ∧ g < W.heap.size ∧ W.cell? ⟨g, i * 3, none⟩ = some (.int .i64 o.vol) ∧ W.cell? ⟨g, i * 3 + 1, none⟩ = some (.int .i64 o.bir) ∧ W.cell? ⟨g, i * 3 + 2, none⟩ = some (.int .i64 o.pos) := by
  rcases h.form with ⟨_, rfl⟩ | ⟨g, cap', cur, e, hB, hc, h1, h2, h3, h4⟩
  · simp at hi
  · simp only [Value.slice.injEq] at e
    obtain ⟨rfl, _, _⟩ := e
    obtain ⟨c1, c2, c3⟩ := cellsO_at hi
    have hl := (List.getElem?_eq_some_iff.1 hi).1
    have get : ∀ j u, (cellsO l)[j]? = some u → W.cell? ⟨g, j, none⟩ = some u := fun j u hu => by
      rw [← h4, List.getElem?_take] at hu
      split at hu
      · simp [World.cell?, hc, ← hu]
      · cases hu
    exact ⟨g, rfl, (Array.getElem?_eq_some_iff.1 hc).1, get _ _ c1, get _ _ c2, get _ _ c3⟩

/-- 'copy' at elements of k cells, onto a row that is known whole. -/
theorem run_copy_rowK {P : Program} (k : Nat) (w : World) (dT sT ty elem : TypeId) (g o dLen dCap : Nat) (a : Addr) (sLen sCap m : Nat) (cur : Array Value) (t : TypeId) (cs : List Value)
    (hu : P.underlying dT = some (.slice elem)) (hs : (P.info? elem).map (·.size) = some k)
    (hg : w.heap[g]? = some (.cells cur t (0, 0))) (hm : Nat.min sLen dLen = m) (hn : cs.length = m * k)
    (hsrc : ∀ j v, cs[j]? = some v → w.cell? (a.add j) = some v) (hfit : o + cs.length ≤ cur.size) (h1 : ∀ v ∈ cs, v.oneCell' = true) :
    (Builtin.copy_ #[dT, sT] ty #[.slice (some ⟨g, o, none⟩) dLen dCap, .slice (some a) sLen sCap]).run P w =
      .ok (goInt m) (w.setRow g (cur.toList.take o ++ cs ++ cur.toList.drop (o + cs.length)).toArray) := by
  have hl := run_loadCells_list (P := P) w a cs hsrc
  have hst := run_storeCells_at P g o t cs 0 cur w hg (by simpa using hfit) h1
  cases hq : P.info? elem with
  | none => simp [hq] at hs
  | some i =>
    have hi : i.size = k := by simpa [hq] using hs
    simp [Builtin.copy_, run_underlying hu, Builtin.lenOf, Builtin.firstCells, sizeOf, typeInfo, hq, hi, hm, ← hn, hl, hst]

/-- What is appended may be of another slice type. -/
theorem run_append_other {P : Program} (t t' e' ty : TypeId) (a : Option Addr) (n c : Nat) (x : Value) (w : World) (ht' : P.underlying t' = some (.slice e')) (e : TypeId) (ht : P.underlying t = some (.slice e)) (i : TypeInfo) (hi : P.info? e = some i) :
    (Builtin.append_ #[t, t'] ty #[.slice a n c, x]).run P w = (Builtin.append_ #[t, t] ty #[.slice a n c, x]).run P w := by
  simp [Builtin.append_, run_underlying ht, run_underlying ht', sizeOf, typeInfo, hi]

end Go.Proofs.Ytononiedecpllaa
