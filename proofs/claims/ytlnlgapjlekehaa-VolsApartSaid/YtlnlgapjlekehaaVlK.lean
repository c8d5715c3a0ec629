import Derived.Test.YtlnlgapjlekehaaJ3
import Derived.Test.YtlnlgapjlekehaaRf8K
/- Layer 11: lists of volumes: the mathematics, and their rows in memory. -/
set_option linter.unusedVariables false
namespace Go.Proofs.Ytlnlgapjlekehaa
open Go.RowKit

theorem infoVol : (Try.prog.info? 60).map (fun i => (i.zero, i.size, i.bytes)) = some (some (.agg #[.int .i64 0, .int .i64 0, .int .i64 0, .bool false, .int .i64 0]), 5, 40) := by kernel_rfl

/-- The cells of volumes. -/
def cellsV : List Vol → List Value
  | [] => []
  | v :: r => .int .i64 v.id :: .int .i64 v.size :: .int .i64 v.root :: .bool v.pin :: .int .i64 v.frm :: cellsV r
theorem cellsV_append (a b : List Vol) : cellsV (a ++ b) = cellsV a ++ cellsV b := by
  induction a with
  | nil => rfl
  | cons v r ih => rw [List.cons_append, cellsV, ih, cellsV]; rfl
theorem cellsV_length (a : List Vol) : (cellsV a).length = a.length * 5 := by
  induction a with
  | nil => rfl
  | cons v r ih => simp only [cellsV, List.length_cons, ih]; omega
theorem cellsV_at (vs : List Vol) : ∀ i (h : i < vs.length), (cellsV vs)[i * 5]? = some (.int .i64 vs[i].id) ∧ (cellsV vs)[i * 5 + 1]? = some (.int .i64 vs[i].size) ∧ (cellsV vs)[i * 5 + 2]? = some (.int .i64 vs[i].root) ∧ (cellsV vs)[i * 5 + 3]? = some (.bool vs[i].pin) ∧ (cellsV vs)[i * 5 + 4]? = some (.int .i64 vs[i].frm) := by
  induction vs with
  | nil => intro i h; cases h
  | cons v r ih =>
    intro i h
    cases i with
    | zero => exact ⟨rfl, rfl, rfl, rfl, rfl⟩
    | succ i =>
      have := ih i (by simpa using h)
      rw [show (i + 1) * 5 = i * 5 + 1 + 1 + 1 + 1 + 1 by omega]
      exact this

/-- Volumes in memory. -/
structure IsVs (W : World) (a : Option Addr) (vs : List Vol) : Prop where
  len : vs.length ≤ maxLen
  cells : 0 < vs.length → ∃ b off, a = some ⟨b, off, none⟩ ∧ b < W.heap.size ∧ ∀ i (h : i < vs.length), W.cell? ⟨b, off + i * 5, none⟩ = some (.int .i64 vs[i].id) ∧ W.cell? ⟨b, off + i * 5 + 1, none⟩ = some (.int .i64 vs[i].size) ∧ W.cell? ⟨b, off + i * 5 + 2, none⟩ = some (.int .i64 vs[i].root) ∧ W.cell? ⟨b, off + i * 5 + 3, none⟩ = some (.bool vs[i].pin) ∧ W.cell? ⟨b, off + i * 5 + 4, none⟩ = some (.int .i64 vs[i].frm)
theorem vsAt {X : Nat → Prop} {W W' : World} {a : Option Addr} {vs : List Vol} (h : IsVs W a vs) (hk : KeptIn X W W') (hX : ∀ p, a = some p → X p.block) : IsVs W' a vs :=
  ⟨h.len, fun hp => by
    obtain ⟨b, off, e, hb, hc⟩ := h.cells hp
    have hb' := hk.block b (hX _ e)
    refine ⟨b, off, e, Nat.lt_of_lt_of_le hb hk.size, fun i hi => ?_⟩
    obtain ⟨h1, h2, h3, h4, h5⟩ := hc i hi
    exact ⟨(World.cell?_of_block (a := ⟨b, off + i * 5, none⟩) hb').trans h1, (World.cell?_of_block (a := ⟨b, off + i * 5 + 1, none⟩) hb').trans h2, (World.cell?_of_block (a := ⟨b, off + i * 5 + 2, none⟩) hb').trans h3, (World.cell?_of_block (a := ⟨b, off + i * 5 + 3, none⟩) hb').trans h4, (World.cell?_of_block (a := ⟨b, off + i * 5 + 4, none⟩) hb').trans h5⟩⟩
theorem row_IsVs {W : World} {B cap : Nat} {a : Option Addr} {vs : List Vol} (h : W.ownsRow B 60 5 (.slice a vs.length cap) vs.length (cellsV vs)) : IsVs W a vs := by
  rcases h.2 with ⟨e, h0⟩ | ⟨g, cap', cur, e, hg, hb, hc, hm, hs, ht⟩
  · exact ⟨by rw [h0]; exact Nat.zero_le _, fun hp => by omega⟩
  · simp only [Value.slice.injEq, true_and] at e
    refine ⟨Nat.le_trans hc hm, fun _ => ⟨g, 0, e.1, (Array.getElem?_eq_some_iff.1 hb).1, fun i hi => ?_⟩⟩
    obtain ⟨h1, h2, h3, h4, h5⟩ := cellsV_at vs i hi
    rw [← ht, List.getElem?_take_of_lt (by omega)] at h1 h2 h3 h4 h5
    rw [Nat.zero_add, cell_of_row _ _ _ _ _ _ hb, cell_of_row _ _ _ _ _ _ hb, cell_of_row _ _ _ _ _ _ hb, cell_of_row _ _ _ _ _ _ hb, cell_of_row _ _ _ _ _ _ hb]
    exact ⟨by simpa using h1, by simpa using h2, by simpa using h3, by simpa using h4, by simpa using h5⟩
theorem row_sliceV {W : World} {B n : Nat} {v : Value} {xs : List Value} (h : W.ownsRow B 60 5 v n xs) : ∃ a cap, v = .slice a n cap := by
  rcases h.2 with ⟨rfl, rfl⟩ | ⟨g1, cap1, cur, rfl, _⟩
  · exact ⟨none, 0, rfl⟩
  · exact ⟨_, _, rfl⟩

/-- The volumes of pairs; none: one is none's. -/
def volsOf : Pairs → Option (List Vol)
  | [] => some []
  | p :: r => match readVol p.1 p.2 with
    | none => none
    | some v => (volsOf r).map (v :: ·)
theorem volsOf_snoc (ps : Pairs) (k x : Nat) : volsOf (ps ++ [(k, x)]) = (volsOf ps).bind fun l => (readVol k x).map fun v => l ++ [v] := by
  induction ps with
  | nil =>
    rw [List.nil_append, volsOf]
    cases h : readVol k x with
    | none => simp [volsOf, h]
    | some v => simp [volsOf, h]
  | cons p r ih =>
    rw [List.cons_append, volsOf, ih, volsOf]
    cases readVol p.1 p.2 with
    | none => rfl
    | some v =>
      cases volsOf r with
      | none => rfl
      | some l =>
        cases readVol k x with
        | none => rfl
        | some u => rfl
theorem volsOf_none {ps qs : Pairs} (h : volsOf ps = none) : volsOf (ps ++ qs) = none := by
  induction ps with
  | nil => cases h
  | cons p r ih =>
    rw [List.cons_append, volsOf]
    rw [volsOf] at h
    cases hr : readVol p.1 p.2 with
    | none => rfl
    | some v =>
      rw [hr] at h
      simp only [Option.map_eq_none_iff] at h
      rw [ih h]
      rfl
theorem volsOf_length {ps : Pairs} {l : List Vol} (h : volsOf ps = some l) : l.length = ps.length := by
  induction ps generalizing l with
  | nil => rw [volsOf] at h; cases h; rfl
  | cons p r ih =>
    rw [volsOf] at h
    cases hr : readVol p.1 p.2 with
    | none => rw [hr] at h; cases h
    | some v =>
      rw [hr] at h
      cases hv : volsOf r with
      | none => simp [hv] at h
      | some m =>
        simp [hv] at h
        subst h
        rw [List.length_cons, List.length_cons, ih hv]

/-- A row of volumes that a call makes since block B. -/
def VfJ (B : Nat) (V : World) (out : List Vol) (v : Value) (W : World) : Prop := W.ownsRow B 60 5 v out.length (cellsV out) ∧ KeptIn (· < B) V W
theorem VfJ.old {B : Nat} {V W W' : World} {out : List Vol} {v : Value} (h : VfJ B V out v W) (hB : B ≤ W.heap.size) (hk : KeptIn (· < W.heap.size) W W') : VfJ B V out v W' :=
  ⟨rowS_block h.1 fun g e => hk.block g (rowS_lt h.1 g e).2, h.2.trans (hk.mono fun k hk' => Nat.lt_of_lt_of_le hk' hB)⟩
theorem VfJ.next {B : Nat} {V W w8 : World} {out : List Vol} {v v' : Value} {u : Vol} {o : Obj} (h : VfJ B V out v W) (hB : V.heap.size = B) (hown : w8.ownsRow B 60 5 v' (out.length + 1) (cellsV out ++ [.int .i64 u.id, .int .i64 u.size, .int .i64 u.root, .bool u.pin, .int .i64 u.frm]))
    (hgrow : (W.alloc o).grownBy w8 v.ownBlock) : VfJ B V (out ++ [u]) v' w8 := by
  refine ⟨?_, ?_⟩
  · rw [List.length_append, cellsV_append]; exact hown
  · exact (h.2.trans (((KeptIn.refl _ W).alloc (fun _ h => h) _).mono fun k hk => Nat.lt_of_lt_of_le (by rw [hB]; exact hk) h.2.size)).grown (fun k hk => by rw [hB]; exact hk) hgrow (fun g e => Nat.not_lt.2 (rowS_lt h.1 g e).1)

theorem vf_bnd (j : Nat) (h : j ≤ 1000) : j + 1 ≤ maxLen ∧ (j + 1) * 40 ≤ 140737488355328 := by
  refine ⟨?_, by omega⟩
  unfold maxLen
  omega

/-- What List answers. -/
def VlS (w : World) : Option (List Vol) → Ending → World → Prop
  | some l, e, w' => ∃ v, e = .returned (.tuple #[v, .int .i64 0]) ∧ w'.ownsRow w.heap.size 60 5 v l.length (cellsV l) ∧ KeptIn (· < w.heap.size) w w'
  | none, e, w' => e = .returned (.tuple #[.slice none 0 0, .int .i64 3]) ∧ KeptIn (· < w.heap.size) w w'
/-- What the document's List answers. -/
def RlS (w : World) : Option (List Vol) → Ending → World → Prop
  | some l, e, w' => ∃ v, e = .returned (.tuple #[v, .bool true]) ∧ w'.ownsRow w.heap.size 60 5 v l.length (cellsV l) ∧ KeptIn (· < w.heap.size) w w'
  | none, e, w' => e = .returned (.tuple #[.slice none 0 0, .bool false]) ∧ KeptIn (· < w.heap.size) w w'

end Go.Proofs.Ytlnlgapjlekehaa
