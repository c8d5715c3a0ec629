import Derived.Test.YtdbanlifneomgaaCt8Q
/- Package tree's survey in memory. -/
set_option linter.unusedVariables false
namespace Go.Proofs.Ytdbanlifneomgaa
open Go.RowKit

theorem infoInt8 : (Try.prog.info? 3).map (fun i => (i.zero, i.size, i.bytes)) = some (some (.int .i64 0), 1, 8) := by kernel_rfl
/-- A row of integers. -/
def cellsI (l : List Int) : List Value := l.map (.int .i64)
theorem rowIntsL {W : World} {B cap : Nat} {a : Option Addr} {l : List Int} (h : W.ownsRow B 3 1 (.slice a l.length cap) l.length (cellsI l)) (hm : l.length ≤ maxLen) : IntsL W a l := by
  refine ⟨hm, fun h0 => ?_⟩
  rcases h.2 with ⟨e, hx⟩ | ⟨g1, cap1, cur, e, hB, hg, h1, h2, h3, h4⟩
  · have : l = [] := by simpa [cellsI] using hx
    rw [this] at h0; simp at h0
  · simp only [Value.slice.injEq] at e
    obtain ⟨rfl, _, _⟩ := e
    have hlt := (rowS_lt h g1 rfl).2
    refine ⟨g1, 0, rfl, hlt, fun i hi => ?_⟩
    rw [Nat.mul_one] at h4
    have e1 : (cur.toList.take l.length)[i]? = (cellsI l)[i]? := by rw [h4]
    rw [List.getElem?_take_of_lt hi] at e1
    rw [Nat.zero_add]
    refine (cell_of_row _ _ i _ _ _ hg).trans ?_
    rw [← Array.getElem?_toList, e1]
    simp [cellsI, List.getElem?_eq_getElem hi, List.getD_eq_getElem?_getD]

/-- A walk over all of a tree, in memory. -/
structure SvAt (W : World) (S s B0 : Nat) (v : Value) (ms : List Int) : Prop where
  box : W.heap[S]? = some (.cells #[pgV s, v, .int .i64 0] 156 (0, 0))
  row : W.ownsRow B0 3 1 v ms.length (cellsI ms)
  lt : S < B0
  le : B0 ≤ W.heap.size

/-- What a page that is met leaves as it was. -/
def SdX (w : World) (S : Nat) (v : Value) (k : Nat) : Prop := k < w.heap.size ∧ k ≠ S ∧ v.ownBlock ≠ some k
theorem sd_kept {V w1 : World} {S m : Nat} {v u : Value} {o : Obj} (hg : (V.alloc o).grownBy w1 v.ownBlock) : KeptIn (SdX V S v) V (w1.setCell ⟨S, 1, none⟩ u) := by
  have h1 : KeptIn (SdX V S v) V (V.alloc o) := (KeptIn.refl _ V).alloc (fun _ h => h.1) _
  exact (h1.grown (fun k h => h.1) hg (fun g e h => h.2.2 e)).setCell (p := ⟨S, 1, none⟩) (fun h => h.2.1 rfl) _
theorem sd_box {V w1 : World} {S s m cap gg cap' x p B0 : Nat} {a : Option Addr} {ms : List Int} {root : Bool} {lv : Int} {lo hi : Nat} (h : SvAt V S s B0 (.slice a m cap) ms) (hb : BoxD x p root lv lo hi V) (hx : x ≠ S) {o : Obj} (hg : (V.alloc o).grownBy w1 (Value.slice a m cap).ownBlock) (u : Value) : BoxD x p root lv lo hi (w1.setCell ⟨S, 1, none⟩ u) :=
  hb.kept (sd_kept (m := m) (S := S) (v := .slice a m cap) hg) ⟨hb.lt, hx, rowS_ne h.row hb (by decide)⟩

theorem sd_sh {V w1 : World} {S s room m cap B0 : Nat} {a : Option Addr} {ms : List Int} {N : List Nd} {D : Nat → Prop} (h : SvAt V S s B0 (.slice a m cap) ms) (hsh : IsSh V s room N D) (hD : ∀ k, D k → k < S) {o : Obj} (hg : (V.alloc o).grownBy w1 (Value.slice a m cap).ownBlock) (u : Value) : IsSh (w1.setCell ⟨S, 1, none⟩ u) s room N D :=
  hsh.kept ((sd_kept (m := m) (S := S) (v := .slice a m cap) hg).mono fun k hk => ⟨hsh.lt k hk, Nat.ne_of_lt (hD k hk), fun e => by
    have := (rowS_lt h.row k e).1
    have := hD k hk
    have := h.lt
    omega⟩)
theorem sd_at {V w1 : World} {S s m cap gg cap' B0 : Nat} {p : Int} {a : Option Addr} {ms : List Int} (h : SvAt V S s B0 (.slice a m cap) ms) (hm : ms.length = m) {o : Obj} (hg : (V.alloc o).grownBy w1 (Value.slice a m cap).ownBlock)
    (hown : w1.ownsRow B0 3 1 (.slice (some ⟨gg, 0, none⟩) (m + 1) cap') (m + 1) (cellsI ms ++ [.int .i64 p])) :
    SvAt (w1.setCell ⟨S, 1, none⟩ (.slice (some ⟨gg, 0, none⟩) (m + 1) cap')) S s B0 (.slice (some ⟨gg, 0, none⟩) (m + 1) cap') (ms ++ [p]) := by
  have hSV : S < V.heap.size := Nat.lt_of_lt_of_le h.lt h.le
  have hS1 : w1.heap[S]? = V.heap[S]? := (hg.block _ (by simp; exact Nat.lt_succ_of_lt hSV) (fun e => rowS_ne h.row h.box (by decide) e.symm)).trans (Lib.alloc_old V _ _ hSV)
  have hk2 : KeptIn (· ≠ S) w1 (w1.setCell ⟨S, 1, none⟩ (.slice (some ⟨gg, 0, none⟩) (m + 1) cap')) := (KeptIn.refl _ w1).setCell (p := ⟨S, 1, none⟩) (by simp) _
  refine ⟨?_, ?_, h.lt, ?_⟩
  · exact (heap_setCell_same _ _ _ _ _ _ (hS1.trans h.box)).trans rfl
  · rw [List.length_append, hm]
    have : cellsI (ms ++ [p]) = cellsI ms ++ [.int .i64 p] := by simp [cellsI]
    rw [this]
    exact rowS_block hown fun g e => hk2.block g fun e2 => by
      have := (rowS_lt hown g e).1
      have := h.lt
      omega
  · have h1 := hg.size
    have h2 := hk2.size
    have h3 := h.le
    simp at h1
    omega

theorem IntsL.drewN {W : World} {b : Option Addr} {l : List Int} (h : IntsL W b l) (n : Nat) : IntsL (W.drewN n) b l := ⟨h.len, h.cells⟩
theorem iContQ {W : World} {b : Option Addr} {l : List Int} (h : IntsL W b l) {x : Int} {m cap : Nat} (hm : l.length = m) {r : Bool} (hr : decide (x ∈ l) = r) (n : Nat) : Calls Try.prog 92 #[.slice b m cap, .int .i64 x] (W.drewN n) fun e w' => e = .returned (.bool r) ∧ w' = W.drewN n := by
  have := iContains8 x b cap l (W.drewN n) (h.drewN n)
  rw [hm, hr] at this
  exact this.mono fun e w' ⟨h1, h2⟩ => ⟨h1, h2.symm⟩

end Go.Proofs.Ytdbanlifneomgaa
