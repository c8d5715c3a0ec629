/- Package mains (layer 3): power at a block: whether it is there, how often it came, how often it was used, its fuse. -/
import Derived.Test.YtmfnapbahkonhaaKept
import Derived.Test.YtmfnapbahkonhaaChecked
import Derived.WalkKit
import Derived.WalkSpells
import Derived.WalkLawsBesides
import Derived.RegionTactic
import Derived.Outline
import Derived.Deep.QuietTactic
import Derived.BigQuiet
import Derived.Deep.RegionHeld3
import Derived.LoopTactic
import Derived.Lib.Hide
set_option linter.unusedVariables false
namespace Go.Proofs.Ytmfnapbahkonhaa
open Go.RowKit

/-- Power at block m. -/
def IsM (m : Nat) (on : Bool) (lives uses fuse : Int) (w : World) : Prop := w.heap[m]? = some (.cells #[.bool on, .int .i64 lives, .int .i64 uses, .int .i64 fuse] 68 (0, 0))

theorem IsM.lt {m : Nat} {on : Bool} {lives uses fuse : Int} {w : World} (h : IsM m on lives uses fuse w) : m < w.heap.size := (Array.getElem?_eq_some_iff.1 h).1
theorem IsM.kept {X : Nat → Prop} {m : Nat} {on : Bool} {lives uses fuse : Int} {w w' : World} (h : IsM m on lives uses fuse w) (hk : KeptIn X w w') (hX : X m) : IsM m on lives uses fuse w' := (hk.block m hX).trans h
theorem IsM.c0 {m : Nat} {on : Bool} {lives uses fuse : Int} {w : World} (h : IsM m on lives uses fuse w) : w.cell? ⟨m, 0, none⟩ = some (.bool on) := by simp [World.cell?, show w.heap[m]? = _ from h]
theorem IsM.c1 {m : Nat} {on : Bool} {lives uses fuse : Int} {w : World} (h : IsM m on lives uses fuse w) : w.cell? ⟨m, 1, none⟩ = some (.int .i64 lives) := by simp [World.cell?, show w.heap[m]? = _ from h]
theorem IsM.c2 {m : Nat} {on : Bool} {lives uses fuse : Int} {w : World} (h : IsM m on lives uses fuse w) : w.cell? ⟨m, 2, none⟩ = some (.int .i64 uses) := by simp [World.cell?, show w.heap[m]? = _ from h]
theorem IsM.c3 {m : Nat} {on : Bool} {lives uses fuse : Int} {w : World} (h : IsM m on lives uses fuse w) : w.cell? ⟨m, 3, none⟩ = some (.int .i64 fuse) := by simp [World.cell?, show w.heap[m]? = _ from h]
theorem IsM.f {m : Nat} {on : Bool} {lives uses fuse : Int} {w : World} (h : IsM m on lives uses fuse w) (i : Nat) : w.frozen? ⟨m, i, none⟩ = false := by simp [World.frozen?, show w.heap[m]? = _ from h]

theorem mNew (w : World) : Calls Try.prog 7 #[] w fun e w' => e = .returned (.pointer (some ⟨w.heap.size, 0, none⟩)) ∧ IsM w.heap.size true 1 0 (-1) w' ∧ KeptIn (· < w.heap.size) w w' := by
  go_enter Try.func7, Try.ntmps7
  go_wp2
  go_ret
  refine ⟨rfl, ?_, (KeptIn.refl _ _).alloc (fun _ h => h) _⟩
  unfold IsM
  rw [heap_alloc_new]

theorem mUseDown (m : Nat) (on : Bool) (lives uses fuse : Int) (w : World) (h : IsM m on lives uses fuse w) (hd : on = false ∨ fuse = 0) :
    Calls Try.prog 52 #[.pointer (some ⟨m, 0, none⟩)] w fun e w' => e = .returned (.int .i64 4) ∧ IsM m false lives uses fuse w' ∧ KeptIn (· ≠ m) w w' := by
  have c0 := h.c0; have c3 := h.c3; have f0 := h.f 0
  have H := Lib.hid h; clear h
  by_cases h0 : fuse = 0
  · subst h0
    clear hd
    go_enter Try.func52, Try.ntmps52
    go_wp2
    go_ret
    have H' := H.out
    unfold IsM at H'
    refine ⟨rfl, ?_, (KeptIn.refl _ _).setCell (p := ⟨m, 0, none⟩) (by simp) _⟩
    simp [IsM, World.setCell, Array.getElem?_modify, H']
  · obtain rfl : on = false := hd.resolve_right h0
    clear hd
    go_enter Try.func52, Try.ntmps52
    go_wp2
    go_ret
    exact ⟨rfl, H.out, .refl _ _⟩

theorem mUseOk (m : Nat) (lives uses fuse : Int) (w : World) (h : IsM m true lives uses fuse w) (hf : fuse < 0) :
    Calls Try.prog 52 #[.pointer (some ⟨m, 0, none⟩)] w fun e w' => e = .returned (.int .i64 0) ∧ IsM m true lives (wrap64 (uses + 1)) fuse w' ∧ KeptIn (· ≠ m) w w' := by
  have c0 := h.c0; have c2 := h.c2; have c3 := h.c3; have f2 := h.f 2
  have hn : ¬ fuse = 0 := by omega
  have hn2 : ¬ 0 < fuse := by omega
  have H := Lib.hid h; clear h
  go_enter Try.func52, Try.ntmps52
  go_wp2
  go_ret
  have H' := H.out
  unfold IsM at H'
  refine ⟨rfl, ?_, (KeptIn.refl _ _).setCell (p := ⟨m, 2, none⟩) (by simp) _⟩
  simp [IsM, World.setCell, Array.getElem?_modify, H']

theorem mUseFuse (m : Nat) (lives uses fuse : Int) (w : World) (h : IsM m true lives uses fuse w) (hf : 0 < fuse) (hf2 : fuse ≤ 9223372036854775807) :
    Calls Try.prog 52 #[.pointer (some ⟨m, 0, none⟩)] w fun e w' => e = .returned (.int .i64 0) ∧ IsM m true lives (wrap64 (uses + 1)) (fuse - 1) w' ∧ KeptIn (· ≠ m) w w' := by
  have c0 := h.c0; have c2 := h.c2; have c3 := h.c3; have f2 := h.f 2; have f3 := h.f 3
  have hn : ¬ fuse = 0 := by omega
  have H := Lib.hid h; clear h
  go_enter Try.func52, Try.ntmps52
  go_wp2
  go_ret
  have H' := H.out
  unfold IsM at H'
  refine ⟨rfl, ?_, ((KeptIn.refl _ _).setCell (p := ⟨m, 2, none⟩) (by simp) _).setCell (p := ⟨m, 3, none⟩) (by simp) _⟩
  simp [IsM, World.setCell, Array.getElem?_modify, H']

theorem mFuse (m : Nat) (on : Bool) (lives uses fuse : Int) (n : Int) (w : World) (h : IsM m on lives uses fuse w) :
    Calls Try.prog 30 #[.pointer (some ⟨m, 0, none⟩), .int .i64 n] w fun e w' => e = .returned (.tuple #[]) ∧ IsM m on lives uses n w' ∧ KeptIn (· ≠ m) w w' := by
  have c3 := h.c3; have f3 := h.f 3
  have H := Lib.hid h; clear h
  go_enter Try.func30, Try.ntmps30
  go_wp2
  go_end0
  have H' := H.out
  unfold IsM at H'
  refine ⟨rfl, ?_, (KeptIn.refl _ _).setCell (p := ⟨m, 3, none⟩) (by simp) _⟩
  simp [IsM, World.setCell, Array.getElem?_modify, H']

theorem mFuseNil (n : Int) (w : World) : Calls Try.prog 30 #[.pointer none, .int .i64 n] w fun e w' => e = .returned (.tuple #[]) ∧ w = w' := by
  go_enter Try.func30, Try.ntmps30
  go_wp2
  go_end0
  exact ⟨rfl, rfl⟩

theorem mOn (m : Nat) (on : Bool) (lives uses fuse : Int) (w : World) (h : IsM m on lives uses fuse w) :
    Calls Try.prog 31 #[.pointer (some ⟨m, 0, none⟩)] w fun e w' => e = .returned (.bool on) ∧ w = w' := by
  have c0 := h.c0
  clear h
  go_enter Try.func31, Try.ntmps31
  go_wp2
  go_ret
  exact ⟨rfl, rfl⟩

theorem mOnNil (w : World) : Calls Try.prog 31 #[.pointer none] w fun e w' => e = .returned (.bool false) ∧ w = w' := by
  go_enter Try.func31, Try.ntmps31
  go_wp2
  go_ret
  exact ⟨rfl, rfl⟩

theorem mUseNil (w : World) : Calls Try.prog 52 #[.pointer none] w fun e w' => e = .returned (.int .i64 2) ∧ w = w' := by
  go_enter Try.func52, Try.ntmps52
  go_wp2
  go_ret
  exact ⟨rfl, rfl⟩

end Go.Proofs.Ytmfnapbahkonhaa
