/- Power as one word: what one use makes of it. -/
import Derived.Test.YtmfnapbahkonhaaMains
set_option linter.unusedVariables false
namespace Go.Proofs.Ytmfnapbahkonhaa
open Go.RowKit

/-- What power is: there or away, how often it came, how often it was used, its fuse. -/
structure Pw where
  on : Bool
  lives : Int
  uses : Int
  fuse : Int

/-- Does the next use go well? -/
def Pw.can (p : Pw) : Bool := p.on && p.fuse != 0
/-- What the next use leaves. -/
def Pw.use (p : Pw) : Pw := if p.can then ⟨true, p.lives, wrap64 (p.uses + 1), if p.fuse < 0 then p.fuse else p.fuse - 1⟩ else ⟨false, p.lives, p.uses, p.fuse⟩
def IsP (m : Nat) (p : Pw) (w : World) : Prop := IsM m p.on p.lives p.uses p.fuse w ∧ p.fuse ≤ 9223372036854775807

theorem IsP.kept {X : Nat → Prop} {m : Nat} {p : Pw} {w w' : World} (h : IsP m p w) (hk : KeptIn X w w') (hX : X m) : IsP m p w' := ⟨h.1.kept hk hX, h.2⟩
theorem IsP.lt {m : Nat} {p : Pw} {w : World} (h : IsP m p w) : m < w.heap.size := h.1.lt

theorem mUse (m : Nat) (p : Pw) (w : World) (h : IsP m p w) :
    Calls Try.prog 52 #[.pointer (some ⟨m, 0, none⟩)] w fun e w' => e = .returned (.int .i64 (if p.can then 0 else 4)) ∧ IsP m p.use w' ∧ KeptIn (· ≠ m) w w' := by
  obtain ⟨h, hf⟩ := h
  cases hc : p.can with
  | false =>
    have hd : p.on = false ∨ p.fuse = 0 := by
      simp only [Pw.can, Bool.and_eq_false_iff, bne_eq_false_iff_eq] at hc
      exact hc
    refine (mUseDown m p.on p.lives p.uses p.fuse w h hd).mono ?_
    rintro e w' ⟨rfl, h1, h2⟩
    exact ⟨rfl, ⟨by simpa [Pw.use, hc] using h1, by simpa [Pw.use, hc] using hf⟩, h2⟩
  | true =>
    obtain ⟨hon, hne⟩ : p.on = true ∧ p.fuse ≠ 0 := by simpa [Pw.can] using hc
    rw [hon] at h
    by_cases h0 : p.fuse < 0
    · refine (mUseOk m p.lives p.uses p.fuse w h h0).mono ?_
      rintro e w' ⟨rfl, h1, h2⟩
      exact ⟨rfl, ⟨by simpa [Pw.use, hc, h0] using h1, by simpa [Pw.use, hc, h0] using hf⟩, h2⟩
    · refine (mUseFuse m p.lives p.uses p.fuse w h (by omega) hf).mono ?_
      rintro e w' ⟨rfl, h1, h2⟩
      exact ⟨rfl, ⟨by simpa [Pw.use, hc, h0] using h1, by simp only [Pw.use, hc, h0, if_true, if_false]; omega⟩, h2⟩

theorem mUseT (m : Nat) (p : Pw) (w : World) (h : IsP m p w) (hc : p.can = true) :
    Calls Try.prog 52 #[.pointer (some ⟨m, 0, none⟩)] w fun e w' => e = .returned (.int .i64 0) ∧ IsP m p.use w' ∧ KeptIn (· ≠ m) w w' := by
  have := mUse m p w h
  rw [hc] at this
  exact this
theorem mUseF (m : Nat) (p : Pw) (w : World) (h : IsP m p w) (hc : p.can = false) :
    Calls Try.prog 52 #[.pointer (some ⟨m, 0, none⟩)] w fun e w' => e = .returned (.int .i64 4) ∧ IsP m p.use w' ∧ KeptIn (· ≠ m) w w' := by
  have := mUse m p w h
  rw [hc] at this
  exact this

end Go.Proofs.Ytmfnapbahkonhaa
