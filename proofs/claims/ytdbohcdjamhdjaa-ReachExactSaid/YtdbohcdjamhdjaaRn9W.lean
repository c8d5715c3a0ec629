import Derived.Test.YtdbohcdjamhdjaaV10
import Derived.Test.YtdbohcdjamhdjaaLr9W
/- The reference of layer 9 (tierceref09): Refs: what stands in its loops; how counts go on. -/
set_option linter.unusedVariables false
namespace Go.Proofs.Ytdbohcdjamhdjaa
open Go.RowKit

/-- The bools that say which pages are seen. -/
def blS (n : Nat) (S : Nat → Bool) : List Value := (List.range n).map fun i => .bool (S i)
theorem blS_set (n : Nat) (S : Nat → Bool) (i : Nat) (b : Bool) : (blS n S).set i (.bool b) = blS n (fun q => if q = i then b else S q) := by
  apply List.ext_getElem
  · simp [blS]
  · intro k h1 h2
    rw [List.getElem_set]
    simp only [blS, List.getElem_map, List.getElem_range]
    by_cases e : i = k
    · rw [if_pos e, if_pos e.symm]
    · rw [if_neg e, if_neg (fun h => e h.symm)]

/-- Behind a world: the bools of pages at block sb, the row of pages and counts. -/
structure Rr9 (w : World) (sb n : Nat) (S : Nat → Bool) (C : Int → Nat) (v : Value) (W : World) : Prop where
  seen : W.heap[sb]? = some (.cells (blS n S).toArray 4 (0, 0))
  row : W.ownsRow w.heap.size 42 2 v (enE C).length (cellsE9 (enE C))
  kept : KeptIn (· < w.heap.size) w W
  new : w.heap.size ≤ sb
section
variable {w W W' : World} {sb n : Nat} {S : Nat → Bool} {C D : Int → Nat} {v v' : Value}
theorem Rr9.old (h : Rr9 w sb n S C v W) (hk : KeptIn (· < W.heap.size) W W') : Rr9 w sb n S C v W' :=
  ⟨(hk.block sb (Array.getElem?_eq_some_iff.1 h.seen).1).trans h.seen, rowS_block h.row fun g e => hk.block g (rowS_lt h.row g e).2, h.kept.go hk, h.new⟩
theorem Rr9.cell (h : Rr9 w sb n S C v W) {i : Nat} (hi : i < n) : W.cell? ⟨sb, i, none⟩ = some (.bool (S i)) ∧ W.frozen? ⟨sb, i, none⟩ = false := by
  have h1 := h.seen
  refine ⟨?_, by simp [World.frozen?, h1]⟩
  simp [World.cell?, h1, blS, hi]
theorem Rr9.mark (h : Rr9 w sb n S C v W) (i : Nat) : Rr9 w sb n (fun q => if q = i then true else S q) C v (W.setCell ⟨sb, i, none⟩ (.bool true)) ∧ KeptIn (· ≠ sb) W (W.setCell ⟨sb, i, none⟩ (.bool true)) := by
  have hk : KeptIn (· ≠ sb) W (W.setCell ⟨sb, i, none⟩ (.bool true)) := (KeptIn.refl _ W).setCell (p := ⟨sb, i, none⟩) (by simp) _
  refine ⟨⟨?_, rowS_block h.row fun g e => hk.block g fun e2 => ?_, h.kept.trans (hk.mono fun k hk' => by have := h.new; omega), h.new⟩, hk⟩
  · rw [← blS_set]
    have h1 := h.seen
    simp [World.setCell, Array.getElem?_modify, h1]
  · subst e2
    exact rowS_ne h.row h.seen (by decide) e
theorem Rr9.add (h : Rr9 w sb n S C v W) (hk : KeptIn (· < W.heap.size) W W') (hrow : W'.ownsRow W.heap.size 42 2 v' (enE D).length (cellsE9 (enE D))) : Rr9 w sb n S D v' W' :=
  ⟨(h.old hk).seen, row_weaken9 hrow h.kept.size, (h.old hk).kept, h.new⟩
theorem Rr9.same (h : Rr9 w sb n S C v W) (e : ∀ q, C q = D q) : Rr9 w sb n S D v W := by
  rw [← show C = D from funext e]
  exact h
theorem LkAt.but {T B0 : Nat} {pv qv : Value} {ms : List Int} {qs : Pairs} {cs : Array Value} {fr : Nat × Nat} (h : LkAt W T B0 pv qv ms qs) (hb : W.heap[sb]? = some (.cells cs 4 fr)) (hk : KeptIn (· ≠ sb) W W') : LkAt W' T B0 pv qv ms qs := by
  refine ⟨(hk.block T fun e => ?_).trans h.box, rowS_block h.prow fun g e => hk.block g fun e2 => ?_, rowS_block h.qrow fun g e => hk.block g fun e2 => ?_, h.lt, Nat.le_trans h.le hk.size⟩
  · subst e
    have := hb.symm.trans h.box
    simp at this
  · subst e2
    exact rowS_ne h.prow hb (by decide) e
  · subst e2
    exact rowS_ne h.qrow hb (by decide) e
end

/-- The pages of these roots' trees. -/
noncomputable def inT (NA : List NdA) (rs : List Int) (q : Int) : Bool := rs.any fun r => decide (q ∈ gG NA r)
theorem inT_iff {NA : List NdA} {rs : List Int} {q : Int} : inT NA rs q = true ↔ ∃ r ∈ rs, q ∈ gG NA r := by
  unfold inT
  rw [List.any_eq_true]
  simp
theorem inT_snoc (NA : List NdA) (rs : List Int) (r q : Int) : inT NA (rs ++ [r]) q = (inT NA rs q || decide (q ∈ gG NA r)) := by
  unfold inT
  rw [List.any_append, List.any_cons, List.any_nil, Bool.or_false]
/-- The pages that are seen: those of the roots before, and so many of this one's. -/
noncomputable def seP (NA : List NdA) (rs g : List Int) (k : Nat) (q : Int) : Bool := inT NA rs q || decide (q ∈ g.take k)
theorem seP_succ {NA : List NdA} {rs g : List Int} {k : Nat} (hk : k < g.length) (q : Int) : seP NA rs g (k + 1) q = (seP NA rs g k q || decide (q = g[k])) := by
  unfold seP
  rw [List.take_add_one, List.getElem?_eq_getElem hk]
  simp only [Option.toList_some, List.mem_append, List.mem_singleton, Bool.decide_or, Bool.or_assoc]
theorem seP_zero (NA : List NdA) (rs g : List Int) (q : Int) : seP NA rs g 0 q = inT NA rs q := by simp [seP]
theorem seP_all (NA : List NdA) (rs : List Int) (r q : Int) : seP NA rs (gG NA r) (gG NA r).length q = inT NA (rs ++ [r]) q := by
  rw [inT_snoc, seP, List.take_length]
/-- A root that isn't 0 is led to once more. -/
theorem cn_root (N : List Nd) (rs : List Int) (r : Int) (P : Int → Bool) (h0 : r ≠ 0) (q : Int) : cnUp (fun q => cnR rs q + cnP N P q) r q = cnR (rs ++ [r]) q + cnP N P q := by
  rw [cnR_snoc]
  unfold cnUp
  by_cases h : q = r
  · subst h
    rw [if_pos rfl, if_pos ⟨rfl, h0⟩]
    dsimp only
    omega
  · rw [if_neg h, if_neg (fun h2 => h h2.1)]
    dsimp only
    omega
theorem cn_zero (rs : List Int) (q : Int) : cnR (rs ++ [0]) q = cnR rs q := by
  rw [cnR_snoc, if_neg (fun h => h.2 rfl)]
  omega
/-- A pair of an inner node leads to its page once more. -/
theorem cn_pair (C : Int → Nat) (ps : Pairs) (j : Nat) (hj : j < ps.length) (q : Int) : cnUp (fun q => C q + vls (ps.take j) q) (kv9 ps[j]) q = C q + vls (ps.take (j + 1)) q := by
  rw [List.take_add_one, List.getElem?_eq_getElem hj]
  show _ = C q + vls (ps.take j ++ [ps[j]]) q
  rw [vls_snoc]
  unfold cnUp
  by_cases h : q = kv9 ps[j]
  · rw [if_pos h, if_pos h, h]
    dsimp only
    omega
  · rw [if_neg h, if_neg h]
    dsimp only
    omega
theorem cn_node {NA : List NdA} {ix : Nat} (hix : ix < NA.length) (hg : gdA NA[ix]) (q : Int) : mlt (N9 NA) ix q = if NA[ix].1 = 0 then 0 else vls NA[ix].2 q := by
  have hi : ix < (N9 NA).length := by rw [N9, List.length_map]; exact hix
  obtain ⟨_, h1, h2, h3⟩ := gdAt_n9 (NA := NA) rfl hi ⟨NA[ix], List.getElem?_eq_getElem hix, hg⟩
  unfold mlt
  rw [List.getElem?_eq_getElem hi]
  simp only
  rw [h3]
  by_cases h0 : NA[ix].1 = 0
  · rw [if_pos h0, if_pos (by omega)]
  · rw [if_neg h0, if_neg (by omega)]

end Go.Proofs.Ytdbohcdjamhdjaa
