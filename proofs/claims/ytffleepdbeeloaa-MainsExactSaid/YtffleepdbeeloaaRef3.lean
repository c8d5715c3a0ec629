/- The document's answers for layer 3, as functions of this program; and both side by side. -/
import Derived.Test.YtffleepdbeeloaaMains
set_option linter.unusedVariables false
namespace Go.Proofs.Ytffleepdbeeloaa
open Go.RowKit

/-- The reference's power at block u. -/
def IsU3 (u : Nat) (on : Bool) (fuse lives uses : Int) (w : World) : Prop := w.heap[u]? = some (.cells #[.bool on, .int .i64 fuse, .int .i64 lives, .int .i64 uses] 32 (0, 0))

theorem IsU3.lt {u : Nat} {on : Bool} {fuse lives uses : Int} {w : World} (h : IsU3 u on fuse lives uses w) : u < w.heap.size := (Array.getElem?_eq_some_iff.1 h).1
theorem IsU3.kept {X : Nat → Prop} {u : Nat} {on : Bool} {fuse lives uses : Int} {w w' : World} (h : IsU3 u on fuse lives uses w) (hk : KeptIn X w w') (hX : X u) : IsU3 u on fuse lives uses w' := (hk.block u hX).trans h
theorem IsU3.c0 {u : Nat} {on : Bool} {fuse lives uses : Int} {w : World} (h : IsU3 u on fuse lives uses w) : w.cell? ⟨u, 0, none⟩ = some (.bool on) := by simp [World.cell?, show w.heap[u]? = _ from h]
theorem IsU3.c1 {u : Nat} {on : Bool} {fuse lives uses : Int} {w : World} (h : IsU3 u on fuse lives uses w) : w.cell? ⟨u, 1, none⟩ = some (.int .i64 fuse) := by simp [World.cell?, show w.heap[u]? = _ from h]
theorem IsU3.c2 {u : Nat} {on : Bool} {fuse lives uses : Int} {w : World} (h : IsU3 u on fuse lives uses w) : w.cell? ⟨u, 2, none⟩ = some (.int .i64 lives) := by simp [World.cell?, show w.heap[u]? = _ from h]
theorem IsU3.c3 {u : Nat} {on : Bool} {fuse lives uses : Int} {w : World} (h : IsU3 u on fuse lives uses w) : w.cell? ⟨u, 3, none⟩ = some (.int .i64 uses) := by simp [World.cell?, show w.heap[u]? = _ from h]
theorem IsU3.f {u : Nat} {on : Bool} {fuse lives uses : Int} {w : World} (h : IsU3 u on fuse lives uses w) (i : Nat) : w.frozen? ⟨u, i, none⟩ = false := by simp [World.frozen?, show w.heap[u]? = _ from h]

theorem uNew (w : World) : Calls Try.prog 8 #[] w fun e w' => e = .returned (.pointer (some ⟨w.heap.size, 0, none⟩)) ∧ IsU3 w.heap.size true (-1) 1 0 w' ∧ KeptIn (· < w.heap.size) w w' := by
  go_enter Try.func8, Try.ntmps8
  go_wp2
  go_ret
  refine ⟨rfl, ?_, (KeptIn.refl _ _).alloc (fun _ h => h) _⟩
  unfold IsU3
  rw [heap_alloc_new]

theorem uUseDown (u : Nat) (on : Bool) (fuse lives uses : Int) (w : World) (h : IsU3 u on fuse lives uses w) (hd : on = false ∨ fuse = 0) :
    Calls Try.prog 10 #[.pointer (some ⟨u, 0, none⟩)] w fun e w' => e = .returned (.bool false) ∧ IsU3 u false fuse lives uses w' ∧ KeptIn (· ≠ u) w w' := by
  have c0 := h.c0; have c1 := h.c1; have f0 := h.f 0
  have H := Lib.hid h; clear h
  cases on
  · clear hd
    go_enter Try.func10, Try.ntmps10
    go_wp2
    go_ret
    exact ⟨rfl, H.out, .refl _ _⟩
  · obtain rfl : fuse = 0 := hd.resolve_left (by simp)
    clear hd
    go_enter Try.func10, Try.ntmps10
    go_wp2
    go_ret
    have H' := H.out
    unfold IsU3 at H'
    refine ⟨rfl, ?_, (KeptIn.refl _ _).setCell (p := ⟨u, 0, none⟩) (by simp) _⟩
    simp [IsU3, World.setCell, Array.getElem?_modify, H']

theorem uUseOk (u : Nat) (fuse lives uses : Int) (w : World) (h : IsU3 u true fuse lives uses w) (h0 : -1 ≤ fuse) (hf : fuse ≠ 0) (hf2 : fuse ≤ 9223372036854775807) :
    Calls Try.prog 10 #[.pointer (some ⟨u, 0, none⟩)] w fun e w' => e = .returned (.bool true) ∧ IsU3 u true (max (fuse - 1) (-1)) lives (wrap64 (uses + 1)) w' ∧ KeptIn (· ≠ u) w w' := by
  have c0 := h.c0; have c1 := h.c1; have c3 := h.c3; have f1 := h.f 1; have f3 := h.f 3
  have H := Lib.hid h; clear h
  by_cases hl : fuse = -1
  · subst hl
    rw [show max ((-1 : Int) - 1) (-1) = -1 from by omega]
    clear h0 hf hf2
    go_enter Try.func10, Try.ntmps10
    go_wp2
    go_ret
    have H' := H.out
    unfold IsU3 at H'
    refine ⟨rfl, ?_, ((KeptIn.refl _ _).setCell (p := ⟨u, 1, none⟩) (by simp) _).setCell (p := ⟨u, 3, none⟩) (by simp) _⟩
    simp [IsU3, World.setCell, Array.getElem?_modify, H']
  · have hl2 : ¬ fuse - 1 < -1 := by omega
    rw [show max (fuse - 1) (-1) = fuse - 1 from by omega]
    clear hl
    go_enter Try.func10, Try.ntmps10
    go_wp2
    go_ret
    have H' := H.out
    unfold IsU3 at H'
    refine ⟨rfl, ?_, ((KeptIn.refl _ _).setCell (p := ⟨u, 1, none⟩) (by simp) _).setCell (p := ⟨u, 3, none⟩) (by simp) _⟩
    simp [IsU3, World.setCell, Array.getElem?_modify, H']

theorem uComeOn (u : Nat) (fuse lives uses : Int) (w : World) (h : IsU3 u true fuse lives uses w) :
    Calls Try.prog 14 #[.pointer (some ⟨u, 0, none⟩)] w fun e w' => e = .returned (.tuple #[]) ∧ w = w' := by
  have c0 := h.c0
  clear h
  go_enter Try.func14, Try.ntmps14
  go_wp2
  go_end0
  exact ⟨rfl, rfl⟩

theorem uComeOff (u : Nat) (fuse lives uses : Int) (w : World) (h : IsU3 u false fuse lives uses w) :
    Calls Try.prog 14 #[.pointer (some ⟨u, 0, none⟩)] w fun e w' => e = .returned (.tuple #[]) ∧ IsU3 u true (-1) (wrap64 (lives + 1)) uses w' ∧ KeptIn (· ≠ u) w w' := by
  have c0 := h.c0; have c1 := h.c1; have c2 := h.c2; have f0 := h.f 0; have f1 := h.f 1; have f2 := h.f 2
  have H := Lib.hid h; clear h
  go_enter Try.func14, Try.ntmps14
  go_wp2
  go_end0
  have H' := H.out
  unfold IsU3 at H'
  refine ⟨rfl, ?_, (((KeptIn.refl _ _).setCell (p := ⟨u, 0, none⟩) (by simp) _).setCell (p := ⟨u, 1, none⟩) (by simp) _).setCell (p := ⟨u, 2, none⟩) (by simp) _⟩
  simp [IsU3, World.setCell, Array.getElem?_modify, H']

end Go.Proofs.Ytffleepdbeeloaa
