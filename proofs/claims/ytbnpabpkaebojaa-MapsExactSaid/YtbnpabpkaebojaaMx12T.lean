import Derived.Test.YtbnpabpkaebojaaMg12T
import Derived.Test.YtbnpabpkaebojaaRo12T
import Derived.Test.YtbnpabpkaebojaaGh12T
/- MapsExact of layer 12: all maps that there were, side by side with the document's rows. -/
set_option linter.unusedVariables false
namespace Go.Proofs.Ytbnpabpkaebojaa
open Go.RowKit

/-- What a change hands back: a root, the Shelf with more nodes. -/
def ChX (s : Nat) (N : List Nd) (f : Nat) (D : Nat → Prop) (qs2 : Pairs) (W : World) (r : Nat) (w' : World) : Prop :=
  ∃ M D2, IsSh w' s 511 (N ++ M) D2 ∧ TrI (N ++ M) r qs2 f ∧ M.length ≤ 6 ∧ (∀ k, D2 k → D k ∨ W.heap.size ≤ k) ∧ Fr8 s W w'
theorem ChX.old {s f r : Nat} {N : List Nd} {D : Nat → Prop} {qs2 : Pairs} {W V V' : World} (h : ChX s N f D qs2 W r V) (hk : KeptIn (· < V.heap.size) V V') : ChX s N f D qs2 W r V' := by
  obtain ⟨M, D2, h1, h2, h3, h4, h5⟩ := h
  exact ⟨M, D2, h1.old hk, h2, h3, h4, fr8_trans h5 (fr8_of hk)⟩
theorem ChX.from {s f r : Nat} {N : List Nd} {D : Nat → Prop} {qs2 : Pairs} {W V V' : World} (hk : KeptIn (· < W.heap.size) W V) (h : ChX s N f D qs2 V r V') : ChX s N f D qs2 W r V' := by
  obtain ⟨M, D2, h1, h2, h3, h4, h5⟩ := h
  exact ⟨M, D2, h1, h2, h3, fun k hd => (h4 k hd).imp id fun h => Nat.le_trans hk.size h, fr8_trans (fr8_of hk) h5⟩
theorem ChR.x {s f r : Nat} {N : List Nd} {D : Nat → Prop} {qs2 : Pairs} {W V : World} (h : ChR s N f D qs2 W r V) : ChX s N (f + 1) D qs2 W r V := by
  obtain ⟨M, D2, h1, h2, h3, h4, h5⟩ := h
  exact ⟨M, D2, h1, h2, by omega, h4, h5⟩
theorem hsBuild {W : World} {s f : Nat} {N : List Nd} {D : Nat → Prop} (h : IsSh W s 511 N D) (hn : N.length + 6 ≤ 511) (cap : Nat) (a : Option Addr) (l : Pairs) (hl : ListOk2 W s a cap l) (hl2 : l.length ≤ 75) (hr : rises l = true) (hf : l.length + 8 ≤ f) :
    Calls Try.prog 45 #[pgV s, .slice a l.length cap] W fun e w' => ∃ r : Nat, e = .returned (.tuple #[.int .i64 (r : Int), .int .i64 0]) ∧ Fr8 s W w' ∧ ChX s N f D l W r w' := by
  refine (trBuild h cap a l hl (by omega) (by omega) hr).mono ?_
  intro e w' hR
  rw [show min 511 511 = 511 from rfl] at hR
  cases hM : pileM 511 l.length 0 l N with
  | mk o N' =>
    rw [hM] at hR
    obtain ⟨⟨p, er, rfl, hm⟩, ha⟩ := hR
    replace ha : AddTo W s 511 D N' w' := ha
    obtain ⟨D2, a1, a2, a3⟩ := ha
    obtain ⟨M, r, rfl, m1, rfl, m2⟩ := TrI.build h.len (c := 511) (by omega) (by omega) hl2 ((rises_srt l).1 hr) (fun q hq => by have := (hl.1.fits q hq).1; unfold topH; omega) hM (by omega)
    obtain ⟨rfl, rfl⟩ := hm
    exact ⟨p, rfl, a3, M, D2, a1, m2.mono hf, m1, a2, a3⟩

theorem ChX.fr {s f r : Nat} {N : List Nd} {D : Nat → Prop} {qs2 : Pairs} {W V : World} (h : ChX s N f D qs2 W r V) : Fr8 s W V := by
  obtain ⟨M, D2, h1, h2, h3, h4, h5⟩ := h
  exact h5
/-- Where nothing changes. -/
theorem ChX.same {s f r : Nat} {N : List Nd} {D : Nat → Prop} {qs : Pairs} {W V : World} (h : IsSh W s 511 N D) (ht : TrI N r qs f) (hk : KeptIn (· < W.heap.size) W V) : ChX s N f D qs W r V :=
  ⟨[], D, by rw [List.append_nil]; exact h.old hk, by rw [List.append_nil]; exact ht, by simp, fun k hk => .inl hk, fr8_of hk⟩
/-- Rows that are being trimmed: what is left, what is gone. -/
def lwM (qs : Pairs) (z k : Nat) : List Nat := (List.range 64).map fun i => if z ≤ i ∧ i < k then 0 else lookM qs i
def lgM (qs : Pairs) (z k : Nat) : List Nat := (List.range 64).map fun i => if z ≤ i ∧ i < k then lookM qs i else 0
theorem lwM_length (qs : Pairs) (z k : Nat) : (lwM qs z k).length = 64 := by simp [lwM]
theorem lgM_length (qs : Pairs) (z k : Nat) : (lgM qs z k).length = 64 := by simp [lgM]
theorem lwM_at (qs : Pairs) (z k : Nat) {i : Nat} (h : i < 64) : (lwM qs z k)[i]? = some (if z ≤ i ∧ i < k then 0 else lookM qs i) := by
  unfold lwM; rw [List.getElem?_map, List.getElem?_range h]; rfl
theorem lgM_at (qs : Pairs) (z k : Nat) {i : Nat} (h : i < 64) : (lgM qs z k)[i]? = some (if z ≤ i ∧ i < k then lookM qs i else 0) := by
  unfold lgM; rw [List.getElem?_map, List.getElem?_range h]; rfl
theorem lwM_zero (qs : Pairs) (z : Nat) : lwM qs z z = rowU qs := by
  refine rowU_ext (lwM_length _ _ _) fun i hi => ?_
  rw [lwM_at _ _ _ hi, if_neg (by omega)]
theorem lgM_zero (qs : Pairs) (z : Nat) : lgM qs z z = zerosM := by
  rw [zerosM_row]
  refine rowU_ext (lgM_length _ _ _) fun i hi => ?_
  rw [lgM_at _ _ _ hi, if_neg (by omega)]
  rfl
theorem lwM_set (qs : Pairs) {z k : Nat} (hz : z ≤ k) (hk : k < 64) : (lwM qs z k).set k 0 = lwM qs z (k + 1) := by
  refine List.ext_getElem? fun i => ?_
  rcases Nat.lt_or_ge i 64 with hi | hi
  · rw [List.getElem?_set, lwM_length, lwM_at _ _ _ hi, lwM_at _ _ _ hi]
    by_cases h : k = i
    · subst h; rw [if_pos rfl, if_pos hk, if_pos ⟨hz, Nat.lt_succ_self _⟩]
    · rw [if_neg h]
      congr 1
      by_cases h2 : z ≤ i ∧ i < k
      · rw [if_pos h2, if_pos ⟨h2.1, by omega⟩]
      · rw [if_neg h2, if_neg (by omega)]
  · rw [List.getElem?_eq_none (by rw [List.length_set, lwM_length]; omega), List.getElem?_eq_none (by rw [lwM_length]; omega)]
theorem lgM_set (qs : Pairs) {z k : Nat} (hz : z ≤ k) (hk : k < 64) : (lgM qs z k).set k (lookM qs k) = lgM qs z (k + 1) := by
  refine List.ext_getElem? fun i => ?_
  rcases Nat.lt_or_ge i 64 with hi | hi
  · rw [List.getElem?_set, lgM_length, lgM_at _ _ _ hi, lgM_at _ _ _ hi]
    by_cases h : k = i
    · subst h; rw [if_pos rfl, if_pos hk, if_pos ⟨hz, Nat.lt_succ_self _⟩]
    · rw [if_neg h]
      congr 1
      by_cases h2 : z ≤ i ∧ i < k
      · rw [if_pos h2, if_pos ⟨h2.1, by omega⟩]
      · rw [if_neg h2, if_neg (by omega)]
  · rw [List.getElem?_eq_none (by rw [List.length_set, lgM_length]; omega), List.getElem?_eq_none (by rw [lgM_length]; omega)]
theorem lwM_end {qs : Pairs} (hs : Srt qs) {z k : Nat} (hk : 64 ≤ k) : lwM qs z k = rowU (qs.take (belowK qs z)) := by
  refine rowU_ext (lwM_length _ _ _) fun i hi => ?_
  rw [lwM_at _ _ _ hi, lookM_take hs]
  by_cases h : i < z
  · rw [if_neg (by omega), if_pos h]
  · rw [if_pos ⟨by omega, by omega⟩, if_neg h]
theorem lgM_end {qs : Pairs} (hs : Srt qs) {z k : Nat} (hk : 64 ≤ k) : lgM qs z k = rowU (qs.drop (belowK qs z)) := by
  refine rowU_ext (lgM_length _ _ _) fun i hi => ?_
  rw [lgM_at _ _ _ hi, lookM_dropB hs]
  by_cases h : i < z
  · rw [if_neg (by omega), if_pos h]
  · rw [if_pos ⟨by omega, by omega⟩, if_neg h]

/-- The Shelf, the document's row, and all roots and rows that there were. -/
structure Mx (w3 : World) (s u B n : Nat) (E : Nat → Prop) (N : List Nd) (D : Nat → Prop) (H : List (Nat × Pairs)) (v1 v2 : Value) (l : List Nat) (W : World) : Prop where
  sh : IsSh W s 511 N D
  dge : ∀ k, D k → w3.heap.size ≤ k
  nl : N.length ≤ n
  row : RowM u l W
  du : ∀ k, D k → k ≠ u
  all : ∀ p ∈ H, TrI N p.1 p.2 48 ∧ GoodM p.2 ∧ p.2.length ≤ 40
  r1 : W.ownsRow B 3 1 v1 H.length (H.map fun p => Value.int .i64 (p.1 : Int))
  r2 : W.ownsRow B 58 64 v2 H.length (H.flatMap fun p => cellsM (rowU p.2))
  d1 : ∀ k, D k → v1.ownBlock ≠ some k
  d2 : ∀ k, D k → v2.ownBlock ≠ some k
  uB : u < B ∧ w3.heap.size ≤ u ∧ s < u
  ex : ∀ k, E k → k < W.heap.size ∧ ¬ D k ∧ v1.ownBlock ≠ some k ∧ v2.ownBlock ≠ some k ∧ k ≠ u ∧ w3.heap.size ≤ k
  kept : KeptIn (· < w3.heap.size) w3 W
  bz : B ≤ W.heap.size

section
variable {w3 W W' : World} {s u B n : Nat} {E : Nat → Prop} {N : List Nd} {D : Nat → Prop} {H : List (Nat × Pairs)} {v1 v2 : Value} {l : List Nat}
theorem Mx.old (h : Mx w3 s u B n E N D H v1 v2 l W) (hk : KeptIn (· < W.heap.size) W W') : Mx w3 s u B n E N D H v1 v2 l W' :=
  ⟨h.sh.old hk, h.dge, h.nl, h.row.kept (hk.block u h.row.lt), h.du, h.all, rowS_block h.r1 fun g e => hk.block g (rowS_lt h.r1 g e).2, rowS_block h.r2 fun g e => hk.block g (rowS_lt h.r2 g e).2, h.d1, h.d2, h.uB, fun k hE => ⟨Nat.lt_of_lt_of_le (h.ex k hE).1 hk.size, (h.ex k hE).2⟩, h.kept.go hk, Nat.le_trans h.bz hk.size⟩
theorem Mx.mono (h : Mx w3 s u B n E N D H v1 v2 l W) {n' : Nat} (hn : n ≤ n') : Mx w3 s u B n' E N D H v1 v2 l W :=
  ⟨h.sh, h.dge, Nat.le_trans h.nl hn, h.row, h.du, h.all, h.r1, h.r2, h.d1, h.d2, h.uB, h.ex, h.kept, h.bz⟩
theorem Mx.ne (h : Mx w3 s u B n E N D H v1 v2 l W) {k : Nat} (hE : E k) : k ≠ s := fun e => (h.ex k hE).2.1 (by rw [e]; exact h.sh.ds)
theorem Mx.tr (h : Mx w3 s u B n E N D H v1 v2 l W) {root f : Nat} {qs : Pairs} (ht : TrI N root qs f) : TrN w3 s 511 root qs f N W := ⟨D, h.sh, ht, by have := h.sh.len; omega, h.dge, h.kept⟩
theorem Mx.ss (h : Mx w3 s u B n E N D H v1 v2 l W) : w3.heap.size ≤ s := h.dge s h.sh.ds
/-- A block that the round makes. -/
theorem Mx.new (h : Mx w3 s u B n E N D H v1 v2 l W) (hk : KeptIn (· < W.heap.size) W W') (hz : W'.heap.size = W.heap.size + 1) : Mx w3 s u B n (fun k => E k ∨ k = W.heap.size) N D H v1 v2 l W' := by
  have h2 := h.old hk
  refine ⟨h2.sh, h2.dge, h2.nl, h2.row, h2.du, h2.all, h2.r1, h2.r2, h2.d1, h2.d2, h2.uB, fun k hE => ?_, h2.kept, h2.bz⟩
  rcases hE with hE | rfl
  · exact h2.ex k hE
  · refine ⟨by omega, fun hd => Nat.lt_irrefl _ (h.sh.lt _ hd), fun e => Nat.lt_irrefl _ (rowS_lt h.r1 _ e).2, fun e => Nat.lt_irrefl _ (rowS_lt h.r2 _ e).2, Nat.ne_of_gt h.row.lt, ?_⟩
    exact Nat.le_trans h.uB.2.1 (Nat.le_of_lt h.row.lt)
theorem Mx.drop (h : Mx w3 s u B n E N D H v1 v2 l W) {E' : Nat → Prop} (hE : ∀ k, E' k → E k) : Mx w3 s u B n E' N D H v1 v2 l W :=
  ⟨h.sh, h.dge, h.nl, h.row, h.du, h.all, h.r1, h.r2, h.d1, h.d2, h.uB, fun k hk => h.ex k (hE k hk), h.kept, h.bz⟩
/-- A store to such a block. -/
theorem Mx.storeE (h : Mx w3 s u B n E N D H v1 v2 l W) {b : Nat} (hb : E b) (hk : KeptIn (· ≠ b) W W') : Mx w3 s u B n E N D H v1 v2 l W' := by
  obtain ⟨e1, e2, e3, e4, e5, e6⟩ := h.ex b hb
  exact ⟨h.sh.kept (hk.mono fun k hd e => e2 (e ▸ hd)), h.dge, h.nl, h.row.kept (hk.block u fun e => e5 e.symm), h.du, h.all, rowS_block h.r1 fun g e => hk.block g fun e' => e3 (e' ▸ e), rowS_block h.r2 fun g e => hk.block g fun e' => e4 (e' ▸ e), h.d1, h.d2, h.uB, fun k hE => ⟨Nat.lt_of_lt_of_le (h.ex k hE).1 hk.size, (h.ex k hE).2⟩, h.kept.trans (hk.mono fun k hk' e => by omega), Nat.le_trans h.bz hk.size⟩
/-- A store to the document's row. -/
theorem Mx.storeU (h : Mx w3 s u B n E N D H v1 v2 l W) {l' : List Nat} (hk : KeptIn (· ≠ u) W W') (hr : RowM u l' W') : Mx w3 s u B n E N D H v1 v2 l' W' := by
  have e3 : ∀ g, v1.ownBlock = some g → g ≠ u := fun g e e' => by have := (rowS_lt h.r1 g e).1; have := h.uB.1; omega
  have e4 : ∀ g, v2.ownBlock = some g → g ≠ u := fun g e e' => by have := (rowS_lt h.r2 g e).1; have := h.uB.1; omega
  exact ⟨h.sh.kept (hk.mono fun k hd => h.du k hd), h.dge, h.nl, hr, h.du, h.all, rowS_block h.r1 fun g e => hk.block g (e3 g e), rowS_block h.r2 fun g e => hk.block g (e4 g e), h.d1, h.d2, h.uB, fun k hE => ⟨Nat.lt_of_lt_of_le (h.ex k hE).1 hk.size, (h.ex k hE).2⟩, h.kept.trans (hk.mono fun k hk' e => by have := h.uB.2.1; omega), Nat.le_trans h.bz hk.size⟩
/-- Behind a change of the tree. -/
theorem Mx.chx (h : Mx w3 s u B n E N D H v1 v2 l W) {f r : Nat} {qs2 : Pairs} (hc : ChX s N f D qs2 W r W') : ∃ N' D', Mx w3 s u B (n + 6) E N' D' H v1 v2 l W' ∧ TrI N' r qs2 f := by
  obtain ⟨M, D2, a1, a2, a3, a4, a5⟩ := hc
  have hss := h.ss
  have hsB : s < B := Nat.lt_trans h.uB.2.2 h.uB.1
  have hwz := h.kept.size
  refine ⟨N ++ M, D2, ⟨a1, fun k hk => ?_, by rw [List.length_append]; have := h.nl; omega, h.row.kept (a5.block u ⟨h.row.lt, Nat.ne_of_gt h.uB.2.2⟩), fun k hk => ?_, fun p hp => ⟨(h.all p hp).1.app, (h.all p hp).2⟩, rowS_block h.r1 fun g e => a5.block g ⟨(rowS_lt h.r1 g e).2, by have := (rowS_lt h.r1 g e).1; omega⟩, rowS_block h.r2 fun g e => a5.block g ⟨(rowS_lt h.r2 g e).2, by have := (rowS_lt h.r2 g e).1; omega⟩, fun k hk e => ?_, fun k hk e => ?_, h.uB, fun k hE => ?_, h.kept.trans (a5.mono fun k hk => ⟨by omega, by omega⟩), Nat.le_trans h.bz a5.size⟩, a2⟩
  · rcases a4 k hk with h1 | h1
    · exact h.dge k h1
    · omega
  · rcases a4 k hk with h1 | h1
    · exact h.du k h1
    · have := h.row.lt; omega
  · rcases a4 k hk with h1 | h1
    · exact h.d1 k h1 e
    · have := (rowS_lt h.r1 k e).2; omega
  · rcases a4 k hk with h1 | h1
    · exact h.d2 k h1 e
    · have := (rowS_lt h.r2 k e).2; omega
  · obtain ⟨e1, e2, e3⟩ := h.ex k hE
    refine ⟨Nat.lt_of_lt_of_le e1 a5.size, fun hd => ?_, e3⟩
    rcases a4 k hd with h1 | h1
    · exact e2 h1
    · omega
theorem Mx.row1 {w1 : World} {o : Obj} (h : Mx w3 s u B n E N D H v1 v2 l W) (hg : (W.alloc o).grownBy w1 v1.ownBlock) : RowM u l w1 ∧ w1.ownsRow B 58 64 v2 H.length (H.flatMap fun p => cellsM (rowU p.2)) ∧ B ≤ w1.heap.size := by
  have hk := grow_kept hg
  refine ⟨h.row.kept (hk.block u ⟨h.row.lt, fun e => by have := (rowS_lt h.r1 _ e).1; have := h.uB.1; omega⟩), rowS_block h.r2 fun k e => hk.block k ⟨(rowS_lt h.r2 k e).2, fun e2 => ?_⟩, Nat.le_trans h.bz hk.size⟩
  obtain ⟨cs, fr, hb⟩ := own_type h.r1 e2
  exact rowS_ne h.r2 hb (by decide) e
/-- Behind the appends of a root and of a row. -/
theorem Mx.push {w1 w2 : World} {g1 c1 g2 c2 root : Nat} {qs : Pairs} {o1 o2 : Obj} (h : Mx w3 s u B n (fun _ => False) N D H v1 v2 l W) (ht : TrI N root qs 48) (hg : GoodM qs) (hq : qs.length ≤ 40)
    (hg1 : (W.alloc o1).grownBy w1 v1.ownBlock) (hl1 : v1.ownBlock = some g1 ∨ g1 = W.heap.size + 1)
    (hown1 : w1.ownsRow B 3 1 (.slice (some ⟨g1, 0, none⟩) (H.length + 1) c1) (H.length + 1) ((H.map fun p => Value.int .i64 (p.1 : Int)) ++ [.int .i64 (root : Int)]))
    (hg2 : (w1.alloc o2).grownBy w2 v2.ownBlock) (hl2 : v2.ownBlock = some g2 ∨ g2 = w1.heap.size + 1)
    (hown2 : w2.ownsRow B 58 64 (.slice (some ⟨g2, 0, none⟩) (H.length + 1) c2) (H.length + 1) ((H.flatMap fun p => cellsM (rowU p.2)) ++ cellsM (rowU qs))) :
    Mx w3 s u B n (fun _ => False) N D (H ++ [(root, qs)]) (.slice (some ⟨g1, 0, none⟩) (H.length + 1) c1) (.slice (some ⟨g2, 0, none⟩) (H.length + 1) c2) l w2 := by
  have hk1 := grow_kept hg1
  have hk2 := grow_kept hg2
  have hwz := h.kept.size
  have hsB : s < B := Nat.lt_trans h.uB.2.2 h.uB.1
  have n12 : ∀ k, v1.ownBlock = some k → v2.ownBlock ≠ some k := fun k e e2 => by
    obtain ⟨cs, fr, hb⟩ := own_type h.r1 e
    exact rowS_ne h.r2 hb (by decide) e2
  have hlt2 : ∀ k, v2.ownBlock = some k → k < w1.heap.size := fun k e => Nat.lt_of_lt_of_le (rowS_lt h.r2 k e).2 hk1.size
  have e1 : ∀ k, k < W.heap.size → v1.ownBlock ≠ some k → v2.ownBlock ≠ some k → w2.heap[k]? = W.heap[k]? := fun k h0 h1 h2 => (hk2.block k ⟨Nat.lt_of_lt_of_le h0 hk1.size, h2⟩).trans (hk1.block k ⟨h0, h1⟩)
  have hg1lt : g1 < w1.heap.size := (rowS_lt hown1 g1 rfl).2
  have hg12 : v2.ownBlock ≠ some g1 := fun e => by
    rcases hl1 with hl1 | hl1
    · exact n12 _ hl1 e
    · have := (rowS_lt h.r2 _ e).2
      omega
  have hk : KeptIn (fun k => k < W.heap.size ∧ v1.ownBlock ≠ some k ∧ v2.ownBlock ≠ some k) W w2 := (hk1.mono fun k hk => ⟨hk.1, hk.2.1⟩).trans (hk2.mono fun k hk => ⟨Nat.lt_of_lt_of_le hk.1 hk1.size, hk.2.2⟩)
  refine ⟨h.sh.kept (hk.mono fun k hD => ⟨h.sh.lt k hD, h.d1 k hD, h.d2 k hD⟩), h.dge, h.nl, h.row.kept (e1 u h.row.lt (fun e => by have := (rowS_lt h.r1 _ e).1; have := h.uB.1; omega) (fun e => by have := (rowS_lt h.r2 _ e).1; have := h.uB.1; omega)), h.du, fun p hp => ?_, ?_, ?_, fun k hD e => ?_, fun k hD e => ?_, h.uB, fun k hE => hE.elim, h.kept.trans (hk.mono fun k hk' => ⟨by omega, fun e => ?_, fun e => ?_⟩), Nat.le_trans h.bz hk.size⟩
  · rcases List.mem_append.1 hp with hp | hp
    · exact h.all p hp
    · rw [List.mem_singleton.1 hp]; exact ⟨ht, hg, hq⟩
  · rw [List.length_append, List.map_append]
    exact rowS_block hown1 fun k e => by
      simp only [Value.ownBlock, Option.some.injEq] at e
      subst e
      exact hk2.block _ ⟨hg1lt, hg12⟩
  · rw [List.length_append, List.flatMap_append]
    simpa using hown2
  · simp only [Value.ownBlock, Option.some.injEq] at e
    subst e
    rcases hl1 with hl | hl
    · exact h.d1 _ hD hl
    · have := h.sh.lt _ hD; omega
  · simp only [Value.ownBlock, Option.some.injEq] at e
    subst e
    rcases hl2 with hl | hl
    · exact h.d2 _ hD hl
    · have := h.sh.lt _ hD; have := hk1.size; omega
  · have := (rowS_lt h.r1 k e).1; have := h.uB; omega
  · have := (rowS_lt h.r2 k e).1; have := h.uB; omega
end

theorem own_slice12 {w : World} {B n sz : Nat} {T : TypeId} {v : Value} {xs : List Value} (h : w.ownsRow B T sz v n xs) : ∃ a cap, v = .slice a n cap := by
  rcases h.2 with ⟨rfl, h0⟩ | ⟨g, cap, cur, rfl, _⟩
  · exact ⟨none, 0, by rw [h0]⟩
  · exact ⟨_, _, rfl⟩
theorem flat_at (H : List (Nat × Pairs)) : ∀ (i : Nat) (p : Nat × Pairs), H[i]? = some p → ∀ t u, (cellsM (rowU p.2))[t]? = some u → (H.flatMap fun p => cellsM (rowU p.2))[i * 64 + t]? = some u := by
  induction H with
  | nil => intro i p h; cases h
  | cons q r ih =>
    intro i p h t u hu
    rw [List.flatMap_cons]
    have hl : (cellsM (rowU q.2)).length = 64 := by rw [List.length_map, rowU_length]
    cases i with
    | zero =>
      simp only [List.getElem?_cons_zero, Option.some.injEq] at h
      subst h
      have := (List.getElem?_eq_some_iff.1 hu).1
      rw [Nat.zero_mul, Nat.zero_add, List.getElem?_append_left this]
      exact hu
    | succ i =>
      rw [List.getElem?_cons_succ] at h
      rw [List.getElem?_append_right (by omega), hl, show (i + 1) * 64 + t - 64 = i * 64 + t by omega]
      exact ih i p h t u hu
theorem own_range12 {W : World} {B : Nat} {v : Value} {H : List (Nat × Pairs)} (h : W.ownsRow B 58 64 v H.length (H.flatMap fun p => cellsM (rowU p.2))) {i : Nat} {p : Nat × Pairs} (hi : H[i]? = some p) :
    ∃ g cap, v = .slice (some ⟨g, 0, none⟩) H.length cap ∧ W.rangeAt g (i * 64) (cellsM (rowU p.2)) ∧ g < W.heap.size := by
  have hil : i < H.length := (List.getElem?_eq_some_iff.1 hi).1
  rcases h.2 with ⟨_, h0⟩ | ⟨g, cap, cur, rfl, hg, hb, hc, hm, hs, ht⟩
  · omega
  · refine ⟨g, cap, rfl, fun t u hu => ?_, (Array.getElem?_eq_some_iff.1 hb).1⟩
    have htl := (List.getElem?_eq_some_iff.1 hu).1
    rw [List.length_map, rowU_length] at htl
    have h1 := flat_at H i p hi t u hu
    rw [← ht, List.getElem?_take_of_lt (by omega)] at h1
    rw [cell_of_row _ _ _ _ _ _ hb]
    simpa using h1
theorem goodE_of {qs : Pairs} (hg : GoodM qs) (hs : Srt qs) : goodE (esOf qs) 64 := by
  intro i hi
  rw [esOf_length] at hi
  rw [esOf_at hi]
  have h1 := hg.at hi
  refine ⟨⟨⟨by simp only; omega, by simp only; omega⟩, ⟨by simp only; omega, by simp only; omega⟩, by simp only; omega⟩, fun h0 => ?_⟩
  rw [esOf_at (by omega)]
  have := rises_lt ((rises_srt qs).2 hs) (show i - 1 < i by omega) hi
  simp only
  omega

/-- What the law begins with. -/
theorem mx_zero (w3 W1 X2 X3 W : World) (s : Nat) (hs : w3.heap.size = s) (h1 : W1 = w3.alloc (.cells #[.slice none 0 0, .int .i64 511] 30)) (hr2 : RowM (s + 1) zerosM X2) (hk2 : KeptIn (· < W1.heap.size) W1 X2) (hz2 : X2.heap.size = s + 2)
    (hr3 : RowM (s + 1) zerosM X3) (hk3 : KeptIn (· ≠ s + 1) X2 X3) (hz3 : X3.heap.size = X2.heap.size) (hW : W = (X3.alloc (.cells #[] 3)).alloc (.cells #[] 58)) :
    Mx w3 s (s + 1) (s + 2) 0 (fun _ => False) [] (fun k => k = s) [] (.slice (some ⟨s + 2, 0, none⟩) 0 0) (.slice (some ⟨s + 3, 0, none⟩) 0 0) zerosM W := by
  have z1 : W1.heap.size = s + 1 := by rw [h1, World.size_alloc, hs]
  have hsh := (tm_new w3 511 (by decide) W1 h1).1
  rw [hs] at hsh
  have hka : KeptIn (· < X3.heap.size) X3 W := by rw [hW]; exact ((KeptIn.refl _ X3).alloc (fun _ h => h) _).alloc (fun _ h => h) _
  have b1 : W.heap[s + 2]? = some (.cells #[] 3 (0, 0)) := by
    rw [hW]
    refine (Lib.alloc_old _ _ _ (by rw [World.size_alloc]; omega)).trans ?_
    have := heap_alloc_new X3 (.cells #[] 3)
    rw [hz3, hz2] at this
    exact this
  have b2 : W.heap[s + 3]? = some (.cells #[] 58 (0, 0)) := by
    have := heap_alloc_new (X3.alloc (.cells #[] 3)) (.cells #[] 58)
    rw [World.size_alloc, hz3, hz2] at this
    rw [hW]
    exact this
  have k03 : KeptIn (· < w3.heap.size) w3 X3 := ((((KeptIn.refl _ w3).alloc (fun _ h => h) _ : KeptIn (· < w3.heap.size) w3 (w3.alloc _))).trans ((by rw [← h1]; exact hk2.mono fun k hk => by omega))).trans (hk3.mono fun k hk => by omega)
  refine ⟨((hsh.old hk2).kept (hk3.mono fun k hk => by omega)).old hka, fun k hk => by omega, Nat.le_refl _, hr3.kept (hka.block _ hr3.lt), fun k hk => by omega, (fun p hp => by cases hp), ⟨rfl, .inr ⟨s + 2, 0, _, rfl, Nat.le_refl _, b1, Nat.le_refl _, by decide, rfl, rfl⟩⟩, ⟨rfl, .inr ⟨s + 3, 0, _, rfl, Nat.le_succ _, b2, Nat.le_refl _, by decide, rfl, rfl⟩⟩, fun k hk e => ?_, fun k hk e => ?_, ⟨by omega, by omega, by omega⟩, fun k hE => hE.elim, k03.trans (hka.mono fun k hk => by omega), by rw [hW, World.size_alloc, World.size_alloc]; omega⟩
  · simp only [Value.ownBlock, Option.some.injEq] at e
    omega
  · simp only [Value.ownBlock, Option.some.injEq] at e
    omega

end Go.Proofs.Ytbnpabpkaebojaa
