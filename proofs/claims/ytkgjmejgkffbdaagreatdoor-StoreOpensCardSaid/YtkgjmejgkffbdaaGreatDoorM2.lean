import Derived.Test.YtkgjmejgkffbdaaGreatDoorM1
import Derived.Test.YtkgjmejgkffbdaaGreatDoorChecked
import Derived.WalkKit
import Derived.WalkSpells
import Derived.WalkLawsBesides
import Derived.RegionTactic
import Derived.Outline
import Derived.Deep.QuietTactic
import Derived.BigQuiet
import Derived.Deep.RegionHeld3
import Derived.LoopTactic
import Derived.Lib.Hide
/- Package mains (layer 3): power at a block: whether it is there, how often it came, how often it was used, its fuse. -/
set_option linter.unusedVariables false
namespace Go.Proofs.YtkgjmejgkffbdaaGreatDoor
open Go.RowKit

/-- Power at block m. -/
def IsM (m : Nat) (on : Bool) (lives uses fuse : Int) (w : World) : Prop := w.heap[m]? = some (.cells #[.bool on, .int .i64 lives, .int .i64 uses, .int .i64 fuse] 80 (0, 0))

theorem IsM.lt {m : Nat} {on : Bool} {lives uses fuse : Int} {w : World} (h : IsM m on lives uses fuse w) : m < w.heap.size := (Array.getElem?_eq_some_iff.1 h).1
theorem IsM.kept {X : Nat → Prop} {m : Nat} {on : Bool} {lives uses fuse : Int} {w w' : World} (h : IsM m on lives uses fuse w) (hk : KeptIn X w w') (hX : X m) : IsM m on lives uses fuse w' := (hk.block m hX).trans h
theorem IsM.c0 {m : Nat} {on : Bool} {lives uses fuse : Int} {w : World} (h : IsM m on lives uses fuse w) : w.cell? ⟨m, 0, none⟩ = some (.bool on) := by simp [World.cell?, show w.heap[m]? = _ from h]
theorem IsM.c1 {m : Nat} {on : Bool} {lives uses fuse : Int} {w : World} (h : IsM m on lives uses fuse w) : w.cell? ⟨m, 1, none⟩ = some (.int .i64 lives) := by simp [World.cell?, show w.heap[m]? = _ from h]
theorem IsM.c2 {m : Nat} {on : Bool} {lives uses fuse : Int} {w : World} (h : IsM m on lives uses fuse w) : w.cell? ⟨m, 2, none⟩ = some (.int .i64 uses) := by simp [World.cell?, show w.heap[m]? = _ from h]
theorem IsM.c3 {m : Nat} {on : Bool} {lives uses fuse : Int} {w : World} (h : IsM m on lives uses fuse w) : w.cell? ⟨m, 3, none⟩ = some (.int .i64 fuse) := by simp [World.cell?, show w.heap[m]? = _ from h]
theorem IsM.f {m : Nat} {on : Bool} {lives uses fuse : Int} {w : World} (h : IsM m on lives uses fuse w) (i : Nat) : w.frozen? ⟨m, i, none⟩ = false := by simp [World.frozen?, show w.heap[m]? = _ from h]

theorem mNew (w : World) : Calls Tryz.prog 6 #[] w fun e w' => e = .returned (.pointer (some ⟨w.heap.size, 0, none⟩)) ∧ IsM w.heap.size true 1 0 (-1) w' ∧ KeptIn (· < w.heap.size) w w' := by
  go_enter Tryz.func6, Tryz.ntmps6
  go_wp2
  go_ret
  refine ⟨rfl, ?_, (KeptIn.refl _ _).alloc (fun _ h => h) _⟩
  unfold IsM
  rw [heap_alloc_new]

theorem mUseDown (m : Nat) (on : Bool) (lives uses fuse : Int) (w : World) (h : IsM m on lives uses fuse w) (hd : on = false ∨ fuse = 0) :
    Calls Tryz.prog 69 #[.pointer (some ⟨m, 0, none⟩)] w fun e w' => e = .returned (.int .i64 4) ∧ IsM m false lives uses fuse w' ∧ KeptIn (· ≠ m) w w' := by
  have c0 := h.c0; have c3 := h.c3; have f0 := h.f 0
  have H := Lib.hid h; clear h
  by_cases h0 : fuse = 0
  · subst h0
    clear hd
    go_enter Tryz.func69, Tryz.ntmps69
    go_wp2
    go_ret
    have H' := H.out
    unfold IsM at H'
    refine ⟨rfl, ?_, (KeptIn.refl _ _).setCell (p := ⟨m, 0, none⟩) (by simp) _⟩
    simp [IsM, World.setCell, Array.getElem?_modify, H']
  · obtain rfl : on = false := hd.resolve_right h0
    clear hd
    go_enter Tryz.func69, Tryz.ntmps69
    go_wp2
    go_ret
    exact ⟨rfl, H.out, .refl _ _⟩

theorem mUseOk (m : Nat) (lives uses fuse : Int) (w : World) (h : IsM m true lives uses fuse w) (hf : fuse < 0) :
    Calls Tryz.prog 69 #[.pointer (some ⟨m, 0, none⟩)] w fun e w' => e = .returned (.int .i64 0) ∧ IsM m true lives (wrap64 (uses + 1)) fuse w' ∧ KeptIn (· ≠ m) w w' := by
  have c0 := h.c0; have c2 := h.c2; have c3 := h.c3; have f2 := h.f 2
  have hn : ¬ fuse = 0 := by omega
  have hn2 : ¬ 0 < fuse := by omega
  have H := Lib.hid h; clear h
  go_enter Tryz.func69, Tryz.ntmps69
  go_wp2
  go_ret
  have H' := H.out
  unfold IsM at H'
  refine ⟨rfl, ?_, (KeptIn.refl _ _).setCell (p := ⟨m, 2, none⟩) (by simp) _⟩
  simp [IsM, World.setCell, Array.getElem?_modify, H']

theorem mUseFuse (m : Nat) (lives uses fuse : Int) (w : World) (h : IsM m true lives uses fuse w) (hf : 0 < fuse) (hf2 : fuse ≤ 9223372036854775807) :
    Calls Tryz.prog 69 #[.pointer (some ⟨m, 0, none⟩)] w fun e w' => e = .returned (.int .i64 0) ∧ IsM m true lives (wrap64 (uses + 1)) (fuse - 1) w' ∧ KeptIn (· ≠ m) w w' := by
  have c0 := h.c0; have c2 := h.c2; have c3 := h.c3; have f2 := h.f 2; have f3 := h.f 3
  have hn : ¬ fuse = 0 := by omega
  have H := Lib.hid h; clear h
  go_enter Tryz.func69, Tryz.ntmps69
  go_wp2
  go_ret
  have H' := H.out
  unfold IsM at H'
  refine ⟨rfl, ?_, ((KeptIn.refl _ _).setCell (p := ⟨m, 2, none⟩) (by simp) _).setCell (p := ⟨m, 3, none⟩) (by simp) _⟩
  simp [IsM, World.setCell, Array.getElem?_modify, H']

theorem mOn (m : Nat) (on : Bool) (lives uses fuse : Int) (w : World) (h : IsM m on lives uses fuse w) :
    Calls Tryz.prog 84 #[.pointer (some ⟨m, 0, none⟩)] w fun e w' => e = .returned (.bool on) ∧ w = w' := by
  have c0 := h.c0
  clear h
  go_enter Tryz.func84, Tryz.ntmps84
  go_wp2
  go_ret
  exact ⟨rfl, rfl⟩

theorem mOnNil (w : World) : Calls Tryz.prog 84 #[.pointer none] w fun e w' => e = .returned (.bool false) ∧ w = w' := by
  go_enter Tryz.func84, Tryz.ntmps84
  go_wp2
  go_ret
  exact ⟨rfl, rfl⟩

theorem mUseNil (w : World) : Calls Tryz.prog 69 #[.pointer none] w fun e w' => e = .returned (.int .i64 2) ∧ w = w' := by
  go_enter Tryz.func69, Tryz.ntmps69
  go_wp2
  go_ret
  exact ⟨rfl, rfl⟩

end Go.Proofs.YtkgjmejgkffbdaaGreatDoor
/- Power as one word: what one use makes of it. -/
set_option linter.unusedVariables false
namespace Go.Proofs.YtkgjmejgkffbdaaGreatDoor
open Go.RowKit

/-- What power is: there or away, how often it came, how often it was used, its fuse. -/
structure Pw where
  on : Bool
  lives : Int
  uses : Int
  fuse : Int

/-- Does the next use go well? -/
def Pw.can (p : Pw) : Bool := p.on && p.fuse != 0
/-- What the next use leaves. -/
def Pw.use (p : Pw) : Pw := if p.can then ⟨true, p.lives, wrap64 (p.uses + 1), if p.fuse < 0 then p.fuse else p.fuse - 1⟩ else ⟨false, p.lives, p.uses, p.fuse⟩
def IsP (m : Nat) (p : Pw) (w : World) : Prop := IsM m p.on p.lives p.uses p.fuse w ∧ p.fuse ≤ 9223372036854775807

theorem IsP.kept {X : Nat → Prop} {m : Nat} {p : Pw} {w w' : World} (h : IsP m p w) (hk : KeptIn X w w') (hX : X m) : IsP m p w' := ⟨h.1.kept hk hX, h.2⟩
theorem IsP.lt {m : Nat} {p : Pw} {w : World} (h : IsP m p w) : m < w.heap.size := h.1.lt

theorem mUse (m : Nat) (p : Pw) (w : World) (h : IsP m p w) :
    Calls Tryz.prog 69 #[.pointer (some ⟨m, 0, none⟩)] w fun e w' => e = .returned (.int .i64 (if p.can then 0 else 4)) ∧ IsP m p.use w' ∧ KeptIn (· ≠ m) w w' := by
  obtain ⟨h, hf⟩ := h
  cases hc : p.can with
  | false =>
    have hd : p.on = false ∨ p.fuse = 0 := by
      simp only [Pw.can, Bool.and_eq_false_iff, bne_eq_false_iff_eq] at hc
      exact hc
    refine (mUseDown m p.on p.lives p.uses p.fuse w h hd).mono ?_
    rintro e w' ⟨rfl, h1, h2⟩
    exact ⟨rfl, ⟨by simpa [Pw.use, hc] using h1, by simpa [Pw.use, hc] using hf⟩, h2⟩
  | true =>
    obtain ⟨hon, hne⟩ : p.on = true ∧ p.fuse ≠ 0 := by simpa [Pw.can] using hc
    rw [hon] at h
    by_cases h0 : p.fuse < 0
    · refine (mUseOk m p.lives p.uses p.fuse w h h0).mono ?_
      rintro e w' ⟨rfl, h1, h2⟩
      exact ⟨rfl, ⟨by simpa [Pw.use, hc, h0] using h1, by simpa [Pw.use, hc, h0] using hf⟩, h2⟩
    · refine (mUseFuse m p.lives p.uses p.fuse w h (by omega) hf).mono ?_
      rintro e w' ⟨rfl, h1, h2⟩
      exact ⟨rfl, ⟨by simpa [Pw.use, hc, h0] using h1, by simp only [Pw.use, hc, h0, if_true, if_false]; omega⟩, h2⟩

theorem mUseT (m : Nat) (p : Pw) (w : World) (h : IsP m p w) (hc : p.can = true) :
    Calls Tryz.prog 69 #[.pointer (some ⟨m, 0, none⟩)] w fun e w' => e = .returned (.int .i64 0) ∧ IsP m p.use w' ∧ KeptIn (· ≠ m) w w' := by
  have := mUse m p w h
  rw [hc] at this
  exact this
theorem mUseF (m : Nat) (p : Pw) (w : World) (h : IsP m p w) (hc : p.can = false) :
    Calls Tryz.prog 69 #[.pointer (some ⟨m, 0, none⟩)] w fun e w' => e = .returned (.int .i64 4) ∧ IsP m p.use w' ∧ KeptIn (· ≠ m) w w' := by
  have := mUse m p w h
  rw [hc] at this
  exact this

end Go.Proofs.YtkgjmejgkffbdaaGreatDoor
