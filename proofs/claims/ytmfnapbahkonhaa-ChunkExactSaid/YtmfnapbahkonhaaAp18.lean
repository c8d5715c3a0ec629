/- ChunkApart: all chunks of two tiers, a row of their spots and a row of their texts. -/
import Derived.Test.YtmfnapbahkonhaaMt18
import Derived.Test.YtmfnapbahkonhaaRt4
set_option linter.unusedVariables false
namespace Go.Proofs.Ytmfnapbahkonhaa
open Go.RowKit

/-! ### rows of any cells -/
theorem rowA_block {w w' : World} {B n s : Nat} {T : TypeId} {v : Value} {xs : List Value} (h : w.ownsRow B T s v n xs) (hb : ∀ g, v.ownBlock = some g → w'.heap[g]? = w.heap[g]?) : w'.ownsRow B T s v n xs := by
  refine ⟨h.1, ?_⟩
  rcases h.2 with h1 | ⟨g, cap, cur, rfl, hg, hb', r⟩
  · exact .inl h1
  · exact .inr ⟨g, cap, cur, rfl, hg, (hb g rfl).trans hb', r⟩
theorem rowA_at {w : World} {B n s : Nat} {T : TypeId} {v : Value} {xs : List Value} (h : w.ownsRow B T s v n xs) (g : Nat) (e : v.ownBlock = some g) : B ≤ g ∧ g < w.heap.size ∧ ∃ cs, w.heap[g]? = some (.cells cs T (0, 0)) := by
  rcases h.2 with ⟨rfl, _⟩ | ⟨g', cap, cur, rfl, hB, hg, _⟩
  · cases e
  · simp only [Value.ownBlock, Option.some.injEq] at e
    subst e
    exact ⟨hB, (Array.getElem?_eq_some_iff.1 hg).1, cur, hg⟩
theorem rowA_old {w w' : World} {B n s : Nat} {T : TypeId} {v : Value} {xs : List Value} (h : w.ownsRow B T s v n xs) (hk : KeptIn (· < w.heap.size) w w') : w'.ownsRow B T s v n xs :=
  rowA_block h fun g e => hk.block g (rowA_at h g e).2.1
/-- A row's cells. -/
theorem rowA_cells {w : World} {B n s : Nat} {T : TypeId} {v : Value} {xs : List Value} (h : w.ownsRow B T s v n xs) (hn : 0 < n) :
    ∃ g cap, v = .slice (some ⟨g, 0, none⟩) n cap ∧ B ≤ g ∧ g < w.heap.size ∧ (∀ j u, xs[j]? = some u → w.cell? ⟨g, j, none⟩ = some u) ∧ ∀ j, w.frozen? ⟨g, j, none⟩ = false := by
  rcases h.2 with ⟨_, h0⟩ | ⟨g, cap, cur, rfl, hg, hb, hc, hm, hs, ht⟩
  · omega
  · refine ⟨g, cap, rfl, hg, (Array.getElem?_eq_some_iff.1 hb).1, fun j u hj => ?_, fun j => frozen_of_row w g j _ _ hb⟩
    rw [cell_of_row w g j _ _ _ hb]
    rw [← ht, List.getElem?_take] at hj
    split at hj
    · simpa using hj
    · cases hj

/-- A block that is none of a Deck's, by its type. -/
theorem Dck.far {k m sz : Nat} {p : Pw} {T : Nat → Dsk} {W : World} (h : Dck k m sz p T W) {g : Nat} {cs : Array Value} {ty : TypeId} (hg : W.heap[g]? = some (.cells cs ty (0, 0))) (h1 : ty ≠ 68) (h2 : ty ≠ 74) (h3 : ty ≠ 79) (h4 : ty ≠ 72) :
    k ≠ g ∧ m ≠ g ∧ ∀ t, t < 2 → (T t).d ≠ g ∧ (T t).s ≠ g ∧ (T t).b ≠ g := by
  refine ⟨fun e => ?_, fun e => ?_, fun t ht => ⟨fun e => ?_, fun e => ?_, fun e => (h.isD t ht).map.ne hg e.symm⟩⟩
  · have h5 := h.box
    rw [e, hg] at h5
    simp only [Option.some.injEq, Obj.cells.injEq] at h5
    exact h3 h5.2.1
  · have h5 : W.heap[m]? = _ := h.isP.1
    rw [e, hg] at h5
    simp only [Option.some.injEq, Obj.cells.injEq] at h5
    exact h1 h5.2.1
  · have h5 := (h.isD t ht).hd
    rw [e, hg] at h5
    simp only [Option.some.injEq, Obj.cells.injEq] at h5
    exact h4 h5.2.1
  · have h5 := (h.isD t ht).hs
    rw [e, hg] at h5
    simp only [Option.some.injEq, Obj.cells.injEq] at h5
    exact h2 h5.2.1
theorem Dck.kept {k m sz : Nat} {p : Pw} {T : Nat → Dsk} {W W' : World} {X : Nat → Prop} (h : Dck k m sz p T W) (hk : KeptIn X W W') (h1 : X k) (h2 : X m) (h3 : ∀ t, t < 2 → X (T t).d ∧ X (T t).s ∧ X (T t).b) : Dck k m sz p T W' :=
  ⟨(hk.block k h1).trans h.box, h.isP.kept hk h2, fun t ht => (h.isD t ht).kept hk (h3 t ht).1 (h3 t ht).2.1 (h3 t ht).2.2, h.nd, h.ns, h.nb, h.sz1, h.sz8⟩

/-! ### spots and texts -/
def cellsSp (n : Nat) : List Value := (List.range n).flatMap fun i => [.int .i64 ((i / 10 : Nat) : Int), .int .i64 ((i % 10 : Nat) : Int)]
theorem cellsSp_succ (n : Nat) : cellsSp (n + 1) = cellsSp n ++ [.int .i64 ((n / 10 : Nat) : Int), .int .i64 ((n % 10 : Nat) : Int)] := by simp [cellsSp, List.range_succ]
theorem cellsSp_length (n : Nat) : (cellsSp n).length = 2 * n := by
  induction n with
  | zero => rfl
  | succ n ih => rw [cellsSp_succ, List.length_append, ih]; rfl
theorem cellsSp_at (n i : Nat) (h : i < n) : (cellsSp n)[2 * i]? = some (.int .i64 ((i / 10 : Nat) : Int)) ∧ (cellsSp n)[2 * i + 1]? = some (.int .i64 ((i % 10 : Nat) : Int)) := by
  induction n with
  | zero => omega
  | succ n ih =>
    rw [cellsSp_succ]
    by_cases e : i < n
    · rw [List.getElem?_append_left (by rw [cellsSp_length]; omega), List.getElem?_append_left (by rw [cellsSp_length]; omega)]
      exact ih e
    · obtain rfl : i = n := by omega
      rw [List.getElem?_append_right (by rw [cellsSp_length]; omega), List.getElem?_append_right (by rw [cellsSp_length]; omega), cellsSp_length, Nat.sub_self, show 2 * i + 1 - 2 * i = 1 by omega]
      exact ⟨rfl, rfl⟩

/-- n spots; texts X; of the first c chunks what they have: C. -/
structure Ap18 (w : World) (kk m k n c b : Nat) (vs vt : Value) (p : Pw) (T : Nat → Dsk) (C : Nat → List UInt8) (X : List (List UInt8)) (W : World) : Prop where
  lw : Lw18 w kk m k p T W
  fr : p.free
  l0 : 10 ≤ slN T k 0
  l1 : 10 ≤ slN T k 1
  tx : ∀ i, i < c → chF T k (i / 10) (i % 10) = C i
  x16 : ∀ x ∈ X, x.length = 16 * k
  nn : ∀ t, t < 2 → (T t).N ≤ b
  rs : W.ownsRow w.heap.size 36 2 vs n (cellsSp n)
  rt : W.ownsRow w.heap.size 9 1 vt X.length (X.map strV)

section
variable {w : World} {kk m k n c b : Nat} {vs vt : Value} {p : Pw} {T : Nat → Dsk} {C : Nat → List UInt8} {X : List (List UInt8)} {W W' : World}
theorem Ap18.old (h : Ap18 w kk m k n c b vs vt p T C X W) (hk : KeptIn (· < W.heap.size) W W') : Ap18 w kk m k n c b vs vt p T C X W' :=
  ⟨h.lw.old hk, h.fr, h.l0, h.l1, h.tx, h.x16, h.nn, rowA_old h.rs hk, rowA_old h.rt hk⟩
theorem Ap18.sl (h : Ap18 w kk m k n c b vs vt p T C X W) {t : Nat} (ht : t < 2) : 10 ≤ slN T k t := by
  rcases (by omega : t = 0 ∨ t = 1) with rfl | rfl
  · exact h.l0
  · exact h.l1
theorem Ap18.farS (h : Ap18 w kk m k n c b vs vt p T C X W) (g : Nat) (e : vs.ownBlock = some g) : kk ≠ g ∧ m ≠ g ∧ ∀ t, t < 2 → (T t).d ≠ g ∧ (T t).s ≠ g ∧ (T t).b ≠ g := by
  obtain ⟨_, _, cs, hc⟩ := rowA_at h.rs g e
  exact h.lw.dk.far hc (by decide) (by decide) (by decide) (by decide)
theorem Ap18.farT (h : Ap18 w kk m k n c b vs vt p T C X W) (g : Nat) (e : vt.ownBlock = some g) : kk ≠ g ∧ m ≠ g ∧ ∀ t, t < 2 → (T t).d ≠ g ∧ (T t).s ≠ g ∧ (T t).b ≠ g := by
  obtain ⟨_, _, cs, hc⟩ := rowA_at h.rt g e
  exact h.lw.dk.far hc (by decide) (by decide) (by decide) (by decide)
theorem Ap18.st (h : Ap18 w kk m k n c b vs vt p T C X W) (g : Nat) (e : vs.ownBlock = some g) : vt.ownBlock ≠ some g := fun e2 => by
  obtain ⟨_, _, cs, hc⟩ := rowA_at h.rs g e
  obtain ⟨_, _, cs2, hc2⟩ := rowA_at h.rt g e2
  rw [hc] at hc2
  simp only [Option.some.injEq, Obj.cells.injEq] at hc2
  exact absurd hc2.2.1 (by decide)
/-- A chunk was written. -/
theorem Ap18.wr (h : Ap18 w kk m k n c b vs vt p T C X W) {t j g c2 : Nat} {l : List UInt8} {C2 : Nat → List UInt8} (ht : t < 2) (hw : Wr18 kk m k p T t j g l W W')
    (hx : ∀ i, i < c2 → chF (upT T t ((T t).wr j (g : Int) l j)) k (i / 10) (i % 10) = C2 i) :
    ∃ p2 T2, Ap18 w kk m k n c2 (b + j) vs vt p2 T2 C2 X W' := by
  obtain ⟨h1, h2⟩ := go_free j p h.fr
  have hlw := h.lw.wr ht hw
  rw [h1] at hlw
  refine ⟨_, _, hlw, h2, by rw [slN_up (by rfl)]; exact h.l0, by rw [slN_up (by rfl)]; exact h.l1, hx, h.x16, fun i hi => ?_, rowA_block h.rs fun g e => hw.2.block g ?_, rowA_block h.rt fun g e => hw.2.block g ?_⟩
  · by_cases e : i = t
    · subst e; rw [upT_self]; have := h.nn i hi; show (T i).N + j ≤ _; omega
    · rw [upT_ne _ _ _ _ e]; have := h.nn i hi; omega
  · obtain ⟨_, f2, f3⟩ := h.farS g e
    exact ⟨(rowA_at h.rs g e).2.1, f2.symm, (f3 t ht).2.2.symm⟩
  · obtain ⟨_, f2, f3⟩ := h.farT g e
    exact ⟨(rowA_at h.rt g e).2.1, f2.symm, (f3 t ht).2.2.symm⟩
theorem chunk_ne {i q : Nat} (h : i ≠ q) : i / 10 = q / 10 → i % 10 ≠ q % 10 := by omega
/-- The q-th chunk was written whole. -/
theorem Ap18.all (h : Ap18 w kk m k n c b vs vt p T C X W) {q c2 : Nat} {l : List UInt8} {C2 : Nat → List UInt8} (hl : l.length = 16 * k) (hc : ∀ i, i < c2 → i ≠ q → i < c ∧ C2 i = C i) (hq : C2 q = l) :
    ∀ i, i < c2 → chF (upT T (q / 10) ((T (q / 10)).wr k ((q % 10 * k + 0 : Nat) : Int) l k)) k (i / 10) (i % 10) = C2 i := fun i hi => by
  by_cases e : i = q
  · subst e
    rw [chF_all hl, hq]
  · obtain ⟨h1, h2⟩ := hc i hi e
    rw [h2, ← h.tx i h1]
    by_cases et : i / 10 = q / 10
    · rw [et]
      exact chF_ne (chunk_ne e et) (Nat.le_of_eq (Nat.zero_add k))
    · exact chF_tier et
/-- Of the q-th chunk the last sector was written. -/
theorem Ap18.last (h : Ap18 w kk m k n c b vs vt p T C X W) {q : Nat} {l : List UInt8} {C2 : Nat → List UInt8} (hq20 : q < 20) (hqc : q < c) (hl : l.length = 16 * 1) (hc : ∀ i, i < c → i ≠ q → C2 i = C i) (hq : C2 q = (C q).take (16 * (k - 1)) ++ l) :
    ∀ i, i < c → chF (upT T (q / 10) ((T (q / 10)).wr 1 ((q % 10 * k + (k - 1) : Nat) : Int) l 1)) k (i / 10) (i % 10) = C2 i := fun i hi => by
  have hk1 := h.lw.dk.sz1
  by_cases e : i = q
  · subst e
    rw [chF_last h.lw.dk (by omega) (by have := h.sl (show i / 10 < 2 by omega); omega) hl, hq, h.tx i hi]
  · rw [hc i hi e, ← h.tx i hi]
    by_cases et : i / 10 = q / 10
    · rw [et]
      exact chF_ne (chunk_ne e et) (by omega)
    · exact chF_tier et
/-- A spot was appended. -/
theorem Ap18.pushS (h : Ap18 w kk m k n c b vs vt p T C X W) {v' : Value} {o : Obj} {w1 : World} (hg : (W.alloc o).grownBy w1 vs.ownBlock)
    (hown : w1.ownsRow w.heap.size 36 2 v' (n + 1) (cellsSp n ++ [.int .i64 ((n / 10 : Nat) : Int), .int .i64 ((n % 10 : Nat) : Int)])) :
    Ap18 w kk m k (n + 1) c b v' vt p T C X w1 := by
  have hk : KeptIn (fun x => x < W.heap.size ∧ vs.ownBlock ≠ some x) W w1 := ((keptNew W o).mono fun x hx => hx.1).trans ⟨hg.os, hg.tape, hg.output, hg.size, fun x hx => hg.block x (by rw [World.size_alloc]; omega) (fun e => hx.2 e.symm)⟩
  have hd := h.lw.dk
  have f : ∀ x, (∀ g, vs.ownBlock = some g → x ≠ g) → vs.ownBlock ≠ some x := fun x hx e => hx x e rfl
  have hz := h.lw.kept.size
  refine ⟨⟨hd.kept hk ⟨hd.lt, f _ fun g e => (h.farS g e).1⟩ ⟨hd.isP.lt, f _ fun g e => (h.farS g e).2.1⟩ fun t ht => ⟨⟨(hd.isD t ht).ltd, f _ fun g e => ((h.farS g e).2.2 t ht).1⟩, ⟨(hd.isD t ht).lts, f _ fun g e => ((h.farS g e).2.2 t ht).2.1⟩, ⟨(hd.isD t ht).ltb, f _ fun g e => ((h.farS g e).2.2 t ht).2.2⟩⟩, h.lw.lm, h.lw.ls, h.lw.kept.trans (hk.mono fun x hx => ⟨by omega, f _ fun g e => by have := (rowA_at h.rs g e).1; omega⟩)⟩, h.fr, h.l0, h.l1, h.tx, h.x16, h.nn, ?_, rowA_block h.rt fun g e => hk.block g ⟨(rowA_at h.rt g e).2.1, fun e2 => h.st g e2 e⟩⟩
  rw [cellsSp_succ]
  exact hown
/-- A text was appended. -/
theorem Ap18.pushT (h : Ap18 w kk m k n c b vs vt p T C X W) {v' : Value} {o : Obj} {w1 : World} {l : List UInt8} (hl : l.length = 16 * k) (hg : (W.alloc o).grownBy w1 vt.ownBlock)
    (hown : w1.ownsRow w.heap.size 9 1 v' (X.length + 1) (X.map strV ++ [strV l])) :
    Ap18 w kk m k n c b vs v' p T C (X ++ [l]) w1 := by
  have hk : KeptIn (fun x => x < W.heap.size ∧ vt.ownBlock ≠ some x) W w1 := ((keptNew W o).mono fun x hx => hx.1).trans ⟨hg.os, hg.tape, hg.output, hg.size, fun x hx => hg.block x (by rw [World.size_alloc]; omega) (fun e => hx.2 e.symm)⟩
  have hd := h.lw.dk
  have f : ∀ x, (∀ g, vt.ownBlock = some g → x ≠ g) → vt.ownBlock ≠ some x := fun x hx e => hx x e rfl
  have hz := h.lw.kept.size
  refine ⟨⟨hd.kept hk ⟨hd.lt, f _ fun g e => (h.farT g e).1⟩ ⟨hd.isP.lt, f _ fun g e => (h.farT g e).2.1⟩ fun t ht => ⟨⟨(hd.isD t ht).ltd, f _ fun g e => ((h.farT g e).2.2 t ht).1⟩, ⟨(hd.isD t ht).lts, f _ fun g e => ((h.farT g e).2.2 t ht).2.1⟩, ⟨(hd.isD t ht).ltb, f _ fun g e => ((h.farT g e).2.2 t ht).2.2⟩⟩, h.lw.lm, h.lw.ls, h.lw.kept.trans (hk.mono fun x hx => ⟨by omega, f _ fun g e => by have := (rowA_at h.rt g e).1; omega⟩)⟩, h.fr, h.l0, h.l1, h.tx, fun x hx => ?_, h.nn, rowA_block h.rs fun g e => hk.block g ⟨(rowA_at h.rs g e).2.1, h.st g e⟩, ?_⟩
  · rcases List.mem_append.1 hx with hx | hx
    · exact h.x16 x hx
    · rw [List.mem_singleton.1 hx]; exact hl
  · rw [List.length_append, List.map_append]
    exact hown
/-- A text was stored. -/
theorem Ap18.setT (h : Ap18 w kk m k n c b vs vt p T C X W) {g i : Nat} {l : List UInt8} (hv : vt.ownBlock = some g) (hi : i < X.length) (hl : l.length = 16 * k) :
    Ap18 w kk m k n c b vs vt p T C (X.set i l) (W.setCell ⟨g, i, none⟩ (strV l)) := by
  have hk : KeptIn (· ≠ g) W (W.setCell ⟨g, i, none⟩ (strV l)) := (KeptIn.refl _ W).setCell (by simp) _
  have hd := h.lw.dk
  obtain ⟨f1, f2, f3⟩ := h.farT g hv
  have hg := (rowA_at h.rt g hv).1
  refine ⟨⟨hd.kept hk f1 f2 f3, h.lw.lm, h.lw.ls, h.lw.kept.trans (hk.mono fun x hx => by omega)⟩, h.fr, h.l0, h.l1, h.tx, fun x hx => ?_, h.nn, rowA_block h.rs fun g2 e => hk.block g2 fun e2 => h.st g2 e (by rw [hv, e2]), ?_⟩
  · rcases List.mem_or_eq_of_mem_set hx with h1 | rfl
    · exact h.x16 x h1
    · exact hl
  · rcases h.rt.2 with ⟨rfl, _⟩ | ⟨g', cap', cur, rfl, _, _⟩
    · cases hv
    · obtain rfl : g' = g := by simpa [Value.ownBlock] using hv
      have := row_set h.rt i (by simpa using hi) (strV l)
      rw [List.length_set, List.map_set]
      exact this
end

theorem made_nil {W : World} {B g : Nat} {T : TypeId} {s : Nat} (hs : W.heap[g]? = some (.cells #[] T (0, 0))) (hB : B ≤ g) : W.ownsRow B T s (.slice (some ⟨g, 0, none⟩) 0 0) 0 [] :=
  ⟨by simp, .inr ⟨g, 0, #[], rfl, hB, hs, Nat.le_refl _, Nat.zero_le _, by simp, by simp⟩⟩
theorem Ap18.start {w : World} {kk m k : Nat} {p : Pw} {T : Nat → Dsk} {C : Nat → List UInt8} {W : World} (h : Lw18 w kk m k p T W) (hf : p.free) (h0 : 10 ≤ slN T k 0) (h1 : 10 ≤ slN T k 1) (hN : ∀ t, t < 2 → (T t).N ≤ 0) :
    Ap18 w kk m k 0 0 0 (.slice (some ⟨W.heap.size, 0, none⟩) 0 0) (.slice (some ⟨W.heap.size + 1, 0, none⟩) 0 0) p T C [] ((W.alloc (.cells #[] 36)).alloc (.cells #[] 9)) := by
  have hz := h.kept.size
  have e1 := heap_alloc2_old W (.cells #[] 36) (.cells #[] 9)
  have e2 := heap_alloc2_new W (.cells #[] 36) (.cells #[] 9)
  exact ⟨h.old ((keptNew _ _).onM (keptNew _ _)), hf, h0, h1, fun i hi => absurd hi (Nat.not_lt_zero i), (fun x hx => by cases hx), hN, made_nil e1 hz, made_nil e2 (by omega)⟩

/-- What the i-th chunk gets first. -/
def tx18 (k i : Nat) : List UInt8 := List.replicate (16 * k) (UInt8.ofNat (i + 1))
theorem tx18_length (k i : Nat) : (tx18 k i).length = 16 * k := List.length_replicate

end Go.Proofs.Ytmfnapbahkonhaa
