import Derived.Test.YtdbohcdjamhdjaaCh8W
import Derived.Test.YtdbohcdjamhdjaaWi8W
/- Package tree's addNodes. -/
set_option linter.unusedVariables false
namespace Go.Proofs.Ytdbohcdjamhdjaa
open Go.RowKit Go.Shelf
attribute [local go_sem] Oper.semAt_some

/-- A block of cells. -/
def IsC (W : World) (k : Nat) : Prop := ∃ cs t fr, W.heap[k]? = some (.cells cs t fr)
theorem IsC.lt {W : World} {k : Nat} (h : IsC W k) : k < W.heap.size := by
  obtain ⟨cs, t, fr, h⟩ := h
  exact (Array.getElem?_eq_some_iff.1 h).1
theorem IsC.eq {W W' : World} {k : Nat} (h : IsC W k) (e : W'.heap[k]? = W.heap[k]?) : IsC W' k := by
  obtain ⟨cs, t, fr, h⟩ := h
  exact ⟨cs, t, fr, e.trans h⟩
theorem isC_cell {W : World} {a : Addr} {v : Value} (h : W.cell? a = some v) : IsC W a.block := by
  obtain ⟨o, h1, h2⟩ := cells_of_cell h
  cases o with
  | cells cs t fr => exact ⟨cs, t, fr, h1⟩
  | _ => cases h2

/-- A Shelf is made of cells. -/
theorem IsSh.cells {W : World} {s room : Nat} {N : List Nd} {D : Nat → Prop} (h : IsSh W s room N D) : IsSh W s room N (fun k => D k ∧ IsC W k) := by
  obtain ⟨la, cap, h1, h0, h2⟩ := h.mem
  refine ⟨⟨h.ds, _, _, _, h1⟩, fun k hk => h.lt k hk.1, h.len, h.rm, h.pos, la, cap, h1, h0, fun hp => ?_⟩
  obtain ⟨b, e, hb, hne, hc, hm, hi⟩ := h2 hp
  have hbc : IsC W b := by
    obtain ⟨a, capn, c1, _⟩ := hi 0 hp
    exact isC_cell c1
  refine ⟨b, e, ⟨hb, hbc⟩, hne, hc, hm, fun i hl => ?_⟩
  obtain ⟨a, capn, c1, c2, c3, c4⟩ := hi i hl
  refine ⟨a, capn, c1, c2, c3, fun p hp => ⟨⟨(c4 p hp).1, ?_⟩, (c4 p hp).2⟩⟩
  obtain ⟨b', off, e', hb', hc'⟩ := c3.cells (h.pos i hl).1
  rw [hp] at e'
  obtain rfl := Option.some.inj e'
  exact isC_cell (hc' 0 (h.pos i hl).1).1

/-- What calls leave of a Shelf to which nodes were added. -/
def AddTo (w : World) (s room : Nat) (D : Nat → Prop) (N' : List Nd) (w' : World) : Prop :=
  ∃ D', IsSh w' s room N' D' ∧ (∀ k, D' k → D k ∨ w.heap.size ≤ k) ∧ KeptIn (fun k => k < w.heap.size ∧ k ≠ s) w w'
theorem AddTo.refl {w : World} {s room : Nat} {D : Nat → Prop} {N : List Nd} (h : IsSh w s room N D) : AddTo w s room D N w := ⟨D, h, fun k hk => .inl hk, KeptIn.refl _ _⟩
theorem AddTo.old {w w' w2 : World} {s room : Nat} {D : Nat → Prop} {N : List Nd} (h : AddTo w s room D N w') (hk : KeptIn (· < w'.heap.size) w' w2) : AddTo w s room D N w2 := by
  obtain ⟨D', h1, h2, h3⟩ := h
  exact ⟨D', h1.old hk, h2, h3.trans (hk.mono fun k h => Nat.lt_of_lt_of_le h.1 h3.size)⟩
theorem AddTo.from {w0 w w' : World} {s room : Nat} {D : Nat → Prop} {N : List Nd} (hk : KeptIn (· < w0.heap.size) w0 w) (h : AddTo w s room D N w') : AddTo w0 s room D N w' := by
  obtain ⟨D', h1, h2, h3⟩ := h
  exact ⟨D', h1, fun k hd => (h2 k hd).imp id fun h => Nat.le_trans hk.size h, (hk.mono fun k h => h.1).trans (h3.mono fun k h => ⟨Nat.lt_of_lt_of_le h.1 hk.size, h.2⟩)⟩

/-- What comes back: the pairs that lead to the nodes, or that there is no room. -/
def ResL (w : World) (o : Option Pairs) (e : Ending) (w' : World) : Prop := match o with
  | some ls => ∃ a cap, e = .returned (.tuple #[.slice a ls.length cap, .int .i64 0]) ∧ w'.ownsRow w.heap.size 82 2 (.slice a ls.length cap) ls.length (cellsP ls)
  | none => e = .returned (.tuple #[.slice none 0 0, .int .i64 6])
def NodesS (w : World) (s room : Nat) (D : Nat → Prop) (r : Option Pairs × List Nd) (e : Ending) (w' : World) : Prop := ResL w r.1 e w' ∧ AddTo w s room D r.2 w'

theorem psSub {W : World} {b off : Nat} {ps : Pairs} (h : IsPs W (some ⟨b, off, none⟩) ps) (i m : Nat) : IsPs W (some ⟨b, off + i * 2, none⟩) ((ps.drop i).take m) := by
  refine psTake ?_ m
  refine ⟨Nat.le_trans (by rw [List.length_drop]; omega) h.len, fun p hp => h.fits p (List.mem_of_mem_drop hp), fun hp => ?_⟩
  rw [List.length_drop] at hp
  obtain ⟨b', off', e, hb, hc⟩ := h.cells (by omega)
  simp only [Option.some.injEq, Addr.mk.injEq, and_true] at e
  obtain ⟨rfl, rfl⟩ := e
  refine ⟨b, off + i * 2, rfl, hb, fun j hj => ?_⟩
  rw [List.length_drop] at hj
  have := hc (i + j) (by omega)
  rw [keyAt_get (by rw [List.length_drop]; omega), valAt_get (by rw [List.length_drop]; omega), List.getElem_drop]
  rw [keyAt_get (by omega), valAt_get (by omega)] at this
  rw [show off + i * 2 + j * 2 = off + (i + j) * 2 by omega]
  exact this

/-- The nodes of parts, and what leads there. -/
def partL (m : Nat) (l : Pairs) (x : PartN m l.length) : Pairs := (l.drop (m * x.1)).take m
def nodesP (lv m : Nat) (l : Pairs) (pre : List (PartN m l.length)) : List Nd := pre.map fun x => (lv, partL m l x)
def leadsP (n0 m : Nat) (l : Pairs) (pre : List (PartN m l.length)) : Pairs := pre.mapIdx fun i x => (keyAt l (m * x.1), n0 + i + 1)
theorem nodesP_snoc (lv m : Nat) (l : Pairs) (pre : List (PartN m l.length)) (x : PartN m l.length) : nodesP lv m l (pre ++ [x]) = nodesP lv m l pre ++ [(lv, partL m l x)] := by simp [nodesP]
theorem leadsP_snoc (n0 m : Nat) (l : Pairs) (pre : List (PartN m l.length)) (x : PartN m l.length) : leadsP n0 m l (pre ++ [x]) = leadsP n0 m l pre ++ [(keyAt l (m * x.1), n0 + pre.length + 1)] := by simp [leadsP]
theorem leadsP_length (n0 m : Nat) (l : Pairs) (pre : List (PartN m l.length)) : (leadsP n0 m l pre).length = pre.length := by simp [leadsP]
theorem nodesP_length (lv m : Nat) (l : Pairs) (pre : List (PartN m l.length)) : (nodesP lv m l pre).length = pre.length := by simp [nodesP]
theorem firstJ_all {m : Nat} {l : Pairs} (hm : 0 < m) (n0 lv : Nat) : ∀ k, k ≤ partsOf m l.length → nodesP lv m l (firstJ m l.length k) = nodesOf lv m l k ∧ leadsP n0 m l (firstJ m l.length k) = leadsOf n0 m l k := by
  intro k
  induction k with
  | zero => intro _; exact ⟨rfl, rfl⟩
  | succ k ih =>
    intro h
    obtain ⟨h1, h2⟩ := ih (by omega)
    rw [firstJ_succ ((parts_lt hm).1 h), nodesP_snoc, leadsP_snoc, nodesOf_succ, leadsOf_succ, h1, h2, firstJ_length hm k (by omega)]
    exact ⟨rfl, rfl⟩
theorem partL_pos {m : Nat} {l : Pairs} (hm : 0 < m) (x : PartN m l.length) : 0 < (partL m l x).length ∧ (partL m l x).length = min m (l.length - m * x.1) := by
  have := x.2
  unfold partL
  rw [List.length_take, List.length_drop]
  omega

/-- Between two rounds: W0 is where the loop began, L the leads' box; ro: how many were added. -/
structure AnI (W0 : World) (s room L : Nat) (D : Nat → Prop) (X : Nat → Prop) (N' : List Nd) (ls : Pairs) (W : World) : Prop where
  ex : ∃ D' a cap, IsSh W s room N' D' ∧ (∀ k, D' k → IsC W k) ∧ (∀ k, D' k → D k ∨ W0.heap.size ≤ k) ∧ W.heap[L]? = some (.cells #[.slice a ls.length cap] 25 (0, 0)) ∧
    W.ownsRow W0.heap.size 82 2 (.slice a ls.length cap) ls.length (cellsP ls) ∧ (∀ g, (Value.slice a ls.length cap).ownBlock = some g → ¬ D' g)
  kept : KeptIn X W0 W

theorem own_block {W W' : World} {B r : Nat} {row : Option Nat} (hg : W.grownBy W' row) (hr : ∀ r, row = some r → B ≤ r ∧ ∃ o : Obj, W.heap[r]? = some o ∧ o.isCells = false) {k : Nat} (hk : IsC W k) : W'.heap[k]? = W.heap[k]? := by
  refine hg.block k hk.lt fun e => ?_
  obtain ⟨_, o, ho, hc⟩ := hr k e.symm
  obtain ⟨cs, t, fr, h⟩ := hk
  rw [h] at ho
  cases ho
  cases hc

/-- What speaks of cells alone abides what the loop itself does. -/
theorem AnI.own {W0 W W' : World} {s room L : Nat} {D X : Nat → Prop} {N' : List Nd} {ls : Pairs} {row : Option Nat} (h : AnI W0 s room L D X N' ls W) (hX : ∀ k, X k → k < W0.heap.size) (hg : W.grownBy W' row) (hr : ∀ r, row = some r → W0.heap.size ≤ r ∧ ∃ o : Obj, W.heap[r]? = some o ∧ o.isCells = false) : AnI W0 s room L D X N' ls W' := by
  obtain ⟨⟨D', a, cap, h1, h2, h3, h4, h5, h6⟩, hk⟩ := h
  have hb := fun k (hk : IsC W k) => own_block (r := 0) hg hr hk
  refine ⟨⟨D', a, cap, h1.kept ⟨hg.os, hg.tape, hg.output, hg.size, fun k hd => hb k (h2 k hd)⟩, fun k hd => (h2 k hd).eq (hb k (h2 k hd)), h3, (hb L ⟨_, _, _, h4⟩).trans h4, rowS_block h5 fun g e => hb g ?_, h6⟩, hk.trans ⟨hg.os, hg.tape, hg.output, hg.size, fun k hx => hg.block k (Nat.lt_of_lt_of_le (hX k hx) hk.size) fun e => ?_⟩⟩
  · rcases h5.2 with ⟨e1, _⟩ | ⟨g1, cap1, cur, e1, _, hc, _⟩
    · rw [e1] at e; cases e
    · rw [e1] at e
      simp only [Value.ownBlock, Option.some.injEq] at e
      subst e
      exact ⟨_, _, _, hc⟩
  · have := (hr k e.symm).1
    have := hX k hx
    omega

/-- Blocks laid in a row. -/
def allocL (w : World) (os : List Obj) : World := os.foldl World.alloc w
theorem allocL_size : ∀ (os : List Obj) (w : World), (allocL w os).heap.size = w.heap.size + os.length := by
  intro os
  induction os with
  | nil => intro w; rfl
  | cons o r ih =>
    intro w
    show (allocL (w.alloc o) r).heap.size = _
    rw [ih, World.size_alloc, List.length_cons]; omega
theorem allocL_kept : ∀ (os : List Obj) (w : World), KeptIn (· < w.heap.size) w (allocL w os) := by
  intro os
  induction os with
  | nil => intro w; exact KeptIn.refl _ _
  | cons o r ih => intro w; exact ((KeptIn.refl _ w).alloc (fun _ h => h) o).go (ih _)
theorem allocL_at : ∀ (os : List Obj) (w : World) (i : Nat) (h : i < os.length), (allocL w os).heap[w.heap.size + i]? = some os[i] := by
  intro os
  induction os with
  | nil => intro w i h; cases h
  | cons o r ih =>
    intro w i h
    show (allocL (w.alloc o) r).heap[w.heap.size + i]? = _
    cases i with
    | zero => exact ((allocL_kept r (w.alloc o)).block _ (by simp)).trans (World.alloc_heap_new w o)
    | succ i =>
      have := ih (w.alloc o) i (by simpa using h)
      rw [World.size_alloc] at this
      rw [show w.heap.size + (i + 1) = w.heap.size + 1 + i by omega]
      exact this

/-- In a round a region without defers goes as anywhere. -/
theorem any_round {F : Fence} {n l : Nat} {P : Program} {md : Region.Mode} {ops : Array Oper} {Q : Exit → Act → World → Prop} (hro : F.round = none) (hno : ∀ (i : Nat) (o : Oper), ops[i]? = some o → ∀ c, o.op ≠ .defer c) : ∀ (fuel : Nat) (listed : Array Bool) (a : Act) (w : World), wpAnyIn F n P md ops Q fuel listed a w → wpAnyIn (F.inRound l) n P md ops Q fuel listed a w := by
  intro fuel
  induction fuel with
  | zero => intro listed a w h; exact h
  | succ fuel ih =>
    intro listed a w h
    refine ⟨h.1, fun i hi => ?_⟩
    have h1 := wpOpIn_mono (K' := wpAnyIn (F.inRound l) n P md ops Q fuel (listed.setIfInBounds i true)) (fun a w => ih _ a w) (h.2 i hi)
    unfold wpOpIn at h1 ⊢
    cases ho : ops[i]? with
    | none => rw [ho] at h1; exact h1
    | some o =>
      rw [ho] at h1
      dsimp only at h1 ⊢
      split
      · rename_i hw
        rw [if_pos hw] at h1
        refine ⟨h1.1, ?_⟩
        have h2 := h1.2
        rw [Oper.semAt_eq _ _ _ (hno i o ho)] at h2 ⊢
        exact h2
      · rename_i hw
        rw [if_neg hw] at h1
        exact h1

/-- append, which the walk is not to open. -/
def appS (ts : Array TypeId) (t : TypeId) (args : Array Value) : Sem Value := Builtin.append_ ts t args
theorem appS_eq (ts : Array TypeId) (t : TypeId) (args : Array Value) : Builtin.append_ ts t args = appS ts t args := rfl

/-- Behind a node more, and the pair that leads there. -/
theorem AnI.more {W0 W V2 V3 w' : World} {s room L n9 k0 gg g cap' : Nat} {D X D2 : Nat → Prop} {N' : List Nd} {nd : Nd} {ls : Pairs} {D1 : Nat → Prop} {a1 : Option Addr} {c1 : Nat} {ob : Obj}
    (hX : ∀ k, X k ↔ k < W0.heap.size ∧ k ≠ s ∧ k ≠ L) (hD : ∀ k, D k → k ≠ L ∧ k < W0.heap.size) (hL : L < W0.heap.size) (hs : s < W0.heap.size) (hLs : L ≠ s)
    (i1 : IsSh W s room N' D1) (i3 : ∀ k, D1 k → D k ∨ W0.heap.size ≤ k) (i5 : W.ownsRow W0.heap.size 82 2 (.slice a1 ls.length c1) ls.length (cellsP ls)) (i6 : ∀ g, (Value.slice a1 ls.length c1).ownBlock = some g → ¬ D1 g) (hk : KeptIn X W0 W)
    (i4 : W.heap[L]? = some (.cells #[.slice a1 ls.length c1] 25 (0, 0)))
    (hsh : IsSh V2 s room (N' ++ [nd]) D2) (hD2 : ∀ k, D2 k → D1 k ∨ W.heap.size ≤ k) (hk2 : KeptIn (fun k => k < W.heap.size ∧ k ≠ s) W V2) (hV3 : (V2.alloc ob).drew = V3)
    (hown : w'.ownsRow W0.heap.size 82 2 (.slice (some ⟨g, 0, none⟩) (ls.length + 1) cap') (ls.length + 1) (cellsP ls ++ [.int .u64 (k0 : Int), .int .u64 (n9 : Int)])) (hgrow : V3.grownBy w' (Value.slice a1 ls.length c1).ownBlock)
    (hg : (Value.slice a1 ls.length c1).ownBlock = some g ∨ g = V3.heap.size) :
    AnI W0 s room L D X (N' ++ [nd]) (ls ++ [(k0, n9)]) (w'.setCell ⟨L, 0, none⟩ (.slice (some ⟨g, 0, none⟩) (ls.length + 1) cap')) ∧ KeptIn X W (w'.setCell ⟨L, 0, none⟩ (.slice (some ⟨g, 0, none⟩) (ls.length + 1) cap')) ∧
      KeepsFrom W0.heap.size W (w'.setCell ⟨L, 0, none⟩ (.slice (some ⟨g, 0, none⟩) (ls.length + 1) cap')) := by
  have hsz : W0.heap.size ≤ W.heap.size := hk.size
  have hs2 : W.heap.size ≤ V2.heap.size := hk2.size
  have hs3 : V3.heap.size = V2.heap.size + 1 := by rw [← hV3]; show (V2.alloc ob).heap.size = _; simp
  have hkA : KeptIn (· < V2.heap.size) V2 V3 := by rw [← hV3]; exact ((KeptIn.refl _ V2).alloc (fun _ h => h) ob).drew
  have hown1 : ∀ g1, (Value.slice a1 ls.length c1).ownBlock = some g1 → W0.heap.size ≤ g1 ∧ g1 < W.heap.size := fun g1 e => rowS_lt i5 g1 e
  have hcb : ∀ g1, (Value.slice a1 ls.length c1).ownBlock = some g1 → IsC W g1 := fun g1 e => by
    rcases i5.2 with ⟨e1, _⟩ | ⟨g2, cap2, cur, e1, _, hc, _⟩
    · rw [e1] at e; cases e
    · rw [e1] at e
      simp only [Value.ownBlock, Option.some.injEq] at e
      subst e
      exact ⟨_, _, _, hc⟩
  have hfar : ∀ k, k < V2.heap.size → (Value.slice a1 ls.length c1).ownBlock ≠ some k → k ≠ L → (w'.setCell ⟨L, 0, none⟩ (.slice (some ⟨g, 0, none⟩) (ls.length + 1) cap')).heap[k]? = V2.heap[k]? := fun k h1 h2 h3 =>
    (heap_setCell_other _ _ _ _ (by simpa using h3)).trans ((hgrow.block k (by omega) (fun e => h2 e.symm)).trans (hkA.block k h1))
  have hnD2 : ∀ g1, (Value.slice a1 ls.length c1).ownBlock = some g1 → ¬ D2 g1 := fun g1 e hd => by
    rcases hD2 g1 hd with h | h
    · exact i6 g1 e h
    · have := (hown1 g1 e).2; omega
  have hLD2 : ¬ D2 L := fun hd => by
    rcases hD2 L hd with h | h
    · rcases i3 L h with h | h
      · exact (hD L h).1 rfl
      · omega
    · omega
  have hgL : g ≠ L := by
    rcases hg with h | h
    · have := (hown1 g h).1; omega
    · omega
  have hL2 : w'.heap[L]? = some (.cells #[.slice a1 ls.length c1] 25 (0, 0)) := by
    refine (hgrow.block L (by omega) fun e => ?_).trans ((hkA.block L (by omega)).trans ((hk2.block L ⟨by omega, hLs⟩).trans i4))
    have := (hown1 L e.symm).1; omega
  have hgD : ¬ D2 g := by
    rcases hg with h | h
    · exact hnD2 g h
    · intro hd; have := hsh.lt g hd; omega
  have hw'sz : W.heap.size ≤ w'.heap.size := by have := hgrow.size; omega
  have hkX : KeptIn X W (w'.setCell ⟨L, 0, none⟩ (.slice (some ⟨g, 0, none⟩) (ls.length + 1) cap')) := by
    refine ⟨hgrow.os.trans (hkA.os.trans hk2.os), hgrow.tape.trans (hkA.tape.trans hk2.tape), hgrow.output.trans (hkA.output.trans hk2.output), by simpa using hw'sz, fun k hx => ?_⟩
    obtain ⟨h1, h2, h3⟩ := (hX k).1 hx
    exact (hfar k (by omega) (fun e => by have := (hown1 k e).1; omega) h3).trans (hk2.block k ⟨by omega, h2⟩)
  refine ⟨⟨⟨fun k => D2 k ∧ IsC V2 k, some ⟨g, 0, none⟩, cap', ?_, fun k hd => ?_, fun k hd => ?_, ?_, ?_, fun g1 e hd => ?_⟩, hk.trans hkX⟩, hkX, ⟨by simpa using hw'sz, fun k o hB ho hc => ?_⟩⟩
  · refine hsh.cells.kept ⟨hgrow.os.trans hkA.os, hgrow.tape.trans hkA.tape, hgrow.output.trans hkA.output, by simp; have := hgrow.size; omega, fun k hd => hfar k (hsh.lt k hd.1) (fun e => hnD2 k e hd.1) (fun e => hLD2 (e ▸ hd.1))⟩
  · exact hd.2.eq (hfar k (hsh.lt k hd.1) (fun e => hnD2 k e hd.1) (fun e => hLD2 (e ▸ hd.1)))
  · rcases hD2 k hd.1 with h | h
    · exact i3 k h
    · exact .inr (by omega)
  · rw [heap_setCell_same _ _ _ _ _ _ hL2, List.length_append]; rfl
  · rw [List.length_append, cellsP_append]
    refine rowS_block hown fun g1 e => heap_setCell_other _ _ _ _ ?_
    have : g = g1 := by simpa [Value.ownBlock] using e
    rw [← this]; simpa using hgL
  · have : g = g1 := by simpa [Value.ownBlock] using e
    exact hgD (this ▸ hd.1)
  · have hkl : k < W.heap.size := (Array.getElem?_eq_some_iff.1 ho).1
    refine (hfar k (by omega) (fun e => ?_) (by omega)).trans ((hk2.block k ⟨hkl, by omega⟩).trans ho)
    obtain ⟨cs, t, fr, h⟩ := hcb k e
    rw [h] at ho
    cases ho
    cases hc

/-- Behind the loop: what is handed back is stored. -/
theorem an_end {w W0 W Wf : World} {s room R E v0 : Nat} {D D' X : Nat → Prop} {N' : List Nd} {Dd : Nat} {o : Obj} {u : Value} (hk0 : KeptIn (· < w.heap.size) w W0) (hs : s < w.heap.size) (hX : ∀ k, k < w.heap.size → k ≠ s → X k) (hD : ∀ k, D k → k < w.heap.size) (hR : w.heap.size ≤ R ∧ R < W0.heap.size) (hE : w.heap.size ≤ E ∧ E < W0.heap.size)
    (h1 : IsSh W s room N' D') (h2 : ∀ k, D' k → IsC W k) (h3 : ∀ k, D' k → D k ∨ W0.heap.size ≤ k) (hk : KeptIn X W0 W) (hK : W.heap[Dd]? = some (.deferred (some []))) (hDd : W0.heap.size ≤ Dd)
    (hW : ((W.setCell ⟨R, 0, none⟩ u).setCell ⟨E, 0, none⟩ (.int .i64 (v0 : Int))).putObj Dd o = Wf) :
    AddTo w s room D N' Wf ∧ (∀ k, IsC W k → k ≠ R → k ≠ E → Wf.heap[k]? = W.heap[k]?) := by
  have hfar : ∀ k, k ≠ R → k ≠ E → k ≠ Dd → Wf.heap[k]? = W.heap[k]? := fun k e1 e2 e3 => by
    rw [← hW]
    exact (World.putObj_heap_other e3).trans ((heap_setCell_other _ _ _ _ (by simpa using e2)).trans (heap_setCell_other _ _ _ _ (by simpa using e1)))
  have hcd : ∀ k, IsC W k → k ≠ Dd := fun k hk e => by
    obtain ⟨cs, t, fr, h⟩ := hk
    rw [e, hK] at h
    cases h
  have hsz : Wf.heap.size = W.heap.size := by rw [← hW]; simp
  have hnot : ∀ k, D' k → k ≠ R ∧ k ≠ E := fun k hd => by
    rcases h3 k hd with h | h
    · have := hD k h; omega
    · omega
  refine ⟨⟨D', h1.kept ⟨by rw [← hW]; rfl, by rw [← hW]; rfl, by rw [← hW]; rfl, by omega, fun k hd => hfar k (hnot k hd).1 (hnot k hd).2 (hcd k (h2 k hd))⟩, fun k hd => (h3 k hd).imp id fun h => Nat.le_trans hk0.size h, ?_⟩, fun k hc e1 e2 => hfar k e1 e2 (hcd k hc)⟩
  have h0 := hk0.size
  refine ((hk0.mono fun k h => h.1).trans (hk.mono fun k h => hX k h.1 h.2)).trans ⟨by rw [← hW]; rfl, by rw [← hW]; rfl, by rw [← hW]; rfl, by omega, fun k h => hfar k (by omega) (by omega) (by omega)⟩

theorem an_stop {w W0 W Wf : World} {s room R E : Nat} {D D' X : Nat → Prop} {N' : List Nd} {Dd : Nat} {o : Obj} (hk0 : KeptIn (· < w.heap.size) w W0) (hs : s < w.heap.size) (hX : ∀ k, k < w.heap.size → k ≠ s → X k)
    (h1 : IsSh W s room N' D') (h2 : ∀ k, D' k → IsC W k) (h3 : ∀ k, D' k → D k ∨ W0.heap.size ≤ k) (hk : KeptIn X W0 W) (hK : W.heap[Dd]? = some (.deferred (some []))) (hDd : W0.heap.size ≤ Dd) (hW : W.putObj Dd o = Wf) :
    AddTo w s room D N' Wf := by
  have hfar : ∀ k, k ≠ Dd → Wf.heap[k]? = W.heap[k]? := fun k e => by rw [← hW]; exact World.putObj_heap_other e
  have hcd : ∀ k, IsC W k → k ≠ Dd := fun k hk e => by
    obtain ⟨cs, t, fr, h⟩ := hk
    rw [e, hK] at h
    cases h
  have hsz : Wf.heap.size = W.heap.size := by rw [← hW]; simp
  refine ⟨D', h1.kept ⟨by rw [← hW]; rfl, by rw [← hW]; rfl, by rw [← hW]; rfl, by omega, fun k hd => hfar k (hcd k (h2 k hd))⟩, fun k hd => (h3 k hd).imp id fun h => Nat.le_trans hk0.size h, ?_⟩
  have h0 := hk0.size
  exact ((hk0.mono fun k h => h.1).trans (hk.mono fun k h => hX k h.1 h.2)).trans ⟨by rw [← hW]; rfl, by rw [← hW]; rfl, by rw [← hW]; rfl, by omega, fun k h => hfar k (by omega)⟩

end Go.Proofs.Ytdbohcdjamhdjaa
