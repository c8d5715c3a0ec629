import Derived.Test.YtdbohcdjamhdjaaV2
import Derived.OwnWalk
import Derived.Deep.AppendLies
/- A row of pairs that a call has made: how it grows. -/
set_option linter.unusedVariables false
namespace Go.Proofs.Ytdbohcdjamhdjaa
open Go.RowKit

theorem infoPair : (Try.prog.info? 82).map (fun i => (i.zero, i.size, i.bytes)) = some (some (.agg #[.int .u64 0, .int .u64 0]), 2, 16) := by kernel_rfl

/-- The cells of pairs. -/
def cellsP : Pairs → List Value
  | [] => []
  | p :: r => .int .u64 p.1 :: .int .u64 p.2 :: cellsP r

theorem cellsP_length (ps : Pairs) : (cellsP ps).length = ps.length * 2 := by
  induction ps with
  | nil => rfl
  | cons p r ih => rw [cellsP, List.length_cons, List.length_cons, ih, List.length_cons]; omega
theorem cellsP_append (ps qs : Pairs) : cellsP (ps ++ qs) = cellsP ps ++ cellsP qs := by
  induction ps with
  | nil => rfl
  | cons p r ih => rw [List.cons_append, cellsP, ih, cellsP]; rfl
theorem cellsP_at (ps : Pairs) : ∀ i, i < ps.length → (cellsP ps)[i * 2]? = some (.int .u64 (keyAt ps i)) ∧ (cellsP ps)[i * 2 + 1]? = some (.int .u64 (valAt ps i)) := by
  induction ps with
  | nil => intro i h; cases h
  | cons p r ih =>
    intro i h
    cases i with
    | zero => exact ⟨rfl, rfl⟩
    | succ i =>
      have := ih i (by simpa using h)
      rw [show (i + 1) * 2 = i * 2 + 1 + 1 by omega]
      exact this

theorem rowS_block {w w' : World} {B n s : Nat} {T : TypeId} {v : Value} {xs : List Value} (h : w.ownsRow B T s v n xs) (hb : ∀ g, v.ownBlock = some g → w'.heap[g]? = w.heap[g]?) : w'.ownsRow B T s v n xs := by
  refine ⟨h.1, ?_⟩
  rcases h.2 with h1 | ⟨g, cap, cur, rfl, hg, hb', r⟩
  · exact .inl h1
  · exact .inr ⟨g, cap, cur, rfl, hg, (hb g rfl).trans hb', r⟩
theorem rowS_ne {w : World} {B n s k : Nat} {T T' : TypeId} {v : Value} {xs : List Value} {cs : Array Value} {fr : Nat × Nat} (h : w.ownsRow B T s v n xs) (hk : w.heap[k]? = some (.cells cs T' fr)) (ht : T' ≠ T) : v.ownBlock ≠ some k := by
  rcases h.2 with ⟨rfl, _⟩ | ⟨g, cap, cur, rfl, _, hg, _⟩
  · simp [Value.ownBlock]
  · intro e
    simp only [Value.ownBlock, Option.some.injEq] at e
    subst e
    rw [hg] at hk
    simp only [Option.some.injEq, Obj.cells.injEq] at hk
    exact ht hk.2.1.symm
theorem rowS_lt {w : World} {B n s : Nat} {T : TypeId} {v : Value} {xs : List Value} (h : w.ownsRow B T s v n xs) (g : Nat) (e : v.ownBlock = some g) : B ≤ g ∧ g < w.heap.size := by
  rcases h.2 with ⟨rfl, _⟩ | ⟨g', cap, cur, rfl, hB, hg, _⟩
  · cases e
  · simp only [Value.ownBlock, Option.some.injEq] at e
    subst e
    exact ⟨hB, (Array.getElem?_eq_some_iff.1 hg).1⟩

/-- A row of pairs reads as the pairs. -/
theorem row_IsPs {W : World} {B cap : Nat} {a : Option Addr} {qs : Pairs} (h : W.ownsRow B 82 2 (.slice a qs.length cap) qs.length (cellsP qs)) (hf : Fits qs) : IsPs W a qs := by
  rcases h.2 with ⟨e, h0⟩ | ⟨g, cap', cur, e, hg, hb, hc, hm, hs, ht⟩
  · exact ⟨by rw [h0]; exact Nat.zero_le _, hf, fun hp => by omega⟩
  · simp only [Value.slice.injEq, true_and] at e
    refine ⟨Nat.le_trans hc hm, hf, fun _ => ⟨g, 0, e.1, (Array.getElem?_eq_some_iff.1 hb).1, fun i hi => ?_⟩⟩
    obtain ⟨h1, h2⟩ := cellsP_at qs i hi
    rw [← ht, List.getElem?_take_of_lt (by omega)] at h1 h2
    rw [Nat.zero_add, cell_of_row _ _ _ _ _ _ hb, cell_of_row _ _ _ _ _ _ hb]
    exact ⟨by simpa using h1, by simpa using h2⟩

theorem BoxL.set {x n n' cap cap' : Nat} {lv lv' : Int} {a a' : Option Addr} {W : World} (h : BoxL x lv a n cap W) : BoxL x lv' a' n' cap' ((W.setCell ⟨x, 0, none⟩ (.int .i64 lv')).setCell ⟨x, 1, none⟩ (.slice a' n' cap')) := by
  have h1 : (W.setCell ⟨x, 0, none⟩ (.int .i64 lv')).heap[x]? = _ := heap_setCell_same _ _ _ _ _ _ h
  have h2 : ((W.setCell ⟨x, 0, none⟩ (.int .i64 lv')).setCell ⟨x, 1, none⟩ (.slice a' n' cap')).heap[x]? = _ := heap_setCell_same _ _ _ _ _ _ h1
  exact h2.trans rfl

/-- What a function hands back whose first result is a node's variable. -/
theorem results_leaf {fn : Func} {p u : Tmp} (h : fn.results = #[.cell p 27, .tmp u]) (tmps : Array Value) (w : World) (x : Nat) (lv : Int) (a : Option Addr) (n cap : Nat)
    (hp : tmps.getD p undef = .pointer (some ⟨x, 0, none⟩)) (hb : BoxL x lv a n cap w) : (results fn tmps).run Try.prog w = .ok (.tuple #[leafV lv a n cap, tmps.getD u undef]) w := by
  have hr := run_loadVar_row (P := Try.prog) w x 27 27 _ _ _ hb Try.underlying27 rfl (by kernel_rfl)
  rw [results_cell_tmp h, hp]
  simp [asAddr, hr, leafV]

/-- A boxed node at x whose pairs are a row of the call's own; the result's box is at B. -/
structure At5 (w : World) (B x : Nat) (lv : Int) (a : Option Addr) (cap : Nat) (qs : Pairs) (W : World) : Prop where
  kept : KeptIn (· < B) w W
  res : BoxL B 0 none 0 0 W
  box : BoxL x lv a qs.length cap W
  row : W.ownsRow B 82 2 (.slice a qs.length cap) qs.length (cellsP qs)
  lt : B < x

section
variable {w W V w1 : World} {B x gg cap cap' : Nat} {lv : Int} {a : Option Addr} {qs : Pairs}
theorem At5.old (h : At5 w B x lv a cap qs W) (hB : B < W.heap.size) (hk : KeptIn (· < W.heap.size) W V) : At5 w B x lv a cap qs V :=
  ⟨h.kept.trans (hk.mono fun k hk => Nat.lt_trans hk hB), h.res.kept hk h.res.lt, h.box.kept hk h.box.lt, rowS_block h.row fun g e => hk.block g (rowS_lt h.row g e).2, h.lt⟩

/-- Behind an append and a store. -/
theorem At5.app (h : At5 w B x lv a cap qs W) (hV : KeptIn (· < W.heap.size) W V) (p : Nat × Nat) (hg : V.grownBy w1 (Value.slice a qs.length cap).ownBlock)
    (hown : w1.ownsRow B 82 2 (.slice (some ⟨gg, 0, none⟩) (qs.length + 1) cap') (qs.length + 1) (cellsP qs ++ [.int .u64 p.1, .int .u64 p.2])) :
    At5 w B x lv (some ⟨gg, 0, none⟩) cap' (qs ++ [p]) (w1.setCell ⟨x, 1, none⟩ (.slice (some ⟨gg, 0, none⟩) (qs.length + 1) cap')) := by
  have hV1 := h.old h.res.lt hV
  have hn1 := rowS_ne hV1.row hV1.box (by decide)
  have hn2 := rowS_ne hV1.row hV1.res (by decide)
  have b1 : w1.heap[x]? = _ := (hg.block x hV1.box.lt (fun e => hn1 e.symm)).trans hV1.box
  have b2 : w1.heap[B]? = _ := (hg.block B hV1.res.lt (fun e => hn2 e.symm)).trans hV1.res
  have hk1 : KeptIn (· < B) w w1 := hV1.kept.trans ⟨hg.os, hg.tape, hg.output, hg.size, fun k hk => hg.block k (Nat.lt_trans hk hV1.res.lt) fun e => by
    have := (rowS_lt hV1.row k e.symm).1
    omega⟩
  have hne : gg ≠ x := fun e => rowS_ne hown b1 (by decide) (by rw [e]; rfl)
  refine ⟨hk1.setCell (p := ⟨x, 1, none⟩) (by have := h.lt; simp; omega) _, ?_, ?_, ?_, h.lt⟩
  · exact (heap_setCell_other _ _ _ _ (by have := h.lt; simp; omega)).trans b2
  · unfold BoxL
    rw [heap_setCell_same _ _ _ _ _ _ b1, List.length_append]
    rfl
  · rw [List.length_append, cellsP_append]
    refine rowS_block hown fun g e => heap_setCell_other _ _ _ _ ?_
    have : gg = g := by simpa [Value.ownBlock] using e
    rw [← this]
    exact hne

theorem At5.psOf (h : At5 w B x lv a cap qs W) (hf : Fits qs) : IsPs W a qs := row_IsPs h.row hf
end

end Go.Proofs.Ytdbohcdjamhdjaa
