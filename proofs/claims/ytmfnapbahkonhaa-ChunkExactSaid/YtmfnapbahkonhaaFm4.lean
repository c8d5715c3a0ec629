/- Mathematics of devices: rows of sectors as they are now, which are loose; uses of power. -/
import Derived.Test.YtmfnapbahkonhaaDv
set_option linter.unusedVariables false
namespace Go.Proofs.Ytmfnapbahkonhaa
open Go.RowKit

/-! ### rows of sectors, as they are now; which are loose -/
def looseL (S : List (List UInt8)) (M : Int → Option (List UInt8)) : List Bool := (List.range S.length).map fun i : Nat => (M (i : Int)).isSome

section
variable {S : List (List UInt8)} {M : Int → Option (List UInt8)}

theorem flushed_length : (flushed S M).length = S.length := by simp [flushed]
theorem looseL_length : (looseL S M).length = S.length := by simp [looseL]

theorem flushed_at (i : Nat) (h : i < S.length) : (flushed S M)[i]? = some (now S M i) := by
  simp [flushed, h]
theorem looseL_at (i : Nat) (h : i < S.length) : (looseL S M)[i]? = some (M (i : Int)).isSome := by
  simp [looseL, h]

theorem flushed_none : flushed S (fun _ => none) = S := by
  apply List.ext_getElem?
  intro i
  by_cases h : i < S.length
  · rw [flushed_at i h, List.getElem?_eq_getElem h]
    simp [now, List.getD_eq_getElem?_getD, h]
  · rw [List.getElem?_eq_none (by rw [flushed_length]; omega), List.getElem?_eq_none (by omega)]

theorem looseL_none : looseL S (fun _ => none) = List.replicate S.length false := by
  apply List.ext_getElem?
  intro i
  by_cases h : i < S.length
  · rw [looseL_at i h]
    simp [h]
  · rw [List.getElem?_eq_none (by rw [looseL_length]; omega), List.getElem?_eq_none (by simp; omega)]

theorem flushed_put (a : Nat) (l : List UInt8) : (flushed S M).set a l = flushed S (putAt M (a : Int) l) := by
  apply List.ext_getElem?
  intro i
  by_cases h : i < S.length
  · rw [flushed_at i h]
    by_cases e : i = a
    · subst e
      rw [List.getElem?_set_self (by rw [flushed_length]; exact h)]
      simp [now, putAt]
    · rw [List.getElem?_set_ne (fun e' => e e'.symm), flushed_at i h]
      have : ¬ ((i : Int) = (a : Int)) := by omega
      simp [now, putAt, this]
  · rw [List.getElem?_eq_none (by rw [List.length_set, flushed_length]; omega), List.getElem?_eq_none (by rw [flushed_length]; omega)]

theorem looseL_put (a : Nat) (l : List UInt8) : (looseL S M).set a true = looseL S (putAt M (a : Int) l) := by
  apply List.ext_getElem?
  intro i
  by_cases h : i < S.length
  · rw [looseL_at i h]
    by_cases e : i = a
    · subst e
      rw [List.getElem?_set_self (by rw [looseL_length]; exact h)]
      simp [putAt]
    · rw [List.getElem?_set_ne (fun e' => e e'.symm), looseL_at i h]
      have : ¬ ((i : Int) = (a : Int)) := by omega
      simp [putAt, this]
  · rw [List.getElem?_eq_none (by rw [List.length_set, looseL_length]; omega), List.getElem?_eq_none (by rw [looseL_length]; omega)]

theorem nows_slice (a n : Nat) (h : a + n ≤ S.length) : nows S M a n = (((flushed S M).drop a).take n).flatten := by
  unfold nows
  congr 1
  apply List.ext_getElem?
  intro i
  by_cases hi : i < n
  · rw [List.getElem?_take, if_pos hi, List.getElem?_drop, flushed_at _ (by omega)]
    simp [hi]
  · rw [List.getElem?_eq_none (by simp; omega), List.getElem?_eq_none (by simp; omega)]

end

/-! ### power, use by use -/
theorem go_uses (n : Nat) : ∀ p : Pw, ((Pw.go n p).2.uses - p.uses - (Pw.go n p).1) % 18446744073709551616 = 0 := by
  induction n with
  | zero => intro p; simp [Pw.go]
  | succ n ih =>
    intro p
    cases hc : p.can with
    | false =>
      simp only [Pw.go, hc, Bool.false_eq_true, if_false, Pw.use]
      omega
    | true =>
      have h := ih p.use
      have hu : p.use.uses = wrap64 (p.uses + 1) := by simp [Pw.use, hc]
      simp only [Pw.go, hc, if_true]
      rw [hu] at h
      unfold wrap64 at h
      omega

theorem go_le (n : Nat) : ∀ p : Pw, (Pw.go n p).1 ≤ n := by
  induction n with
  | zero => intro p; simp [Pw.go]
  | succ n ih =>
    intro p
    cases hc : p.can with
    | false => simp [Pw.go, hc]
    | true => have := ih p.use; simp only [Pw.go, hc, if_true]; omega

theorem go_off (n : Nat) : ∀ p : Pw, (Pw.go n p).1 ≠ n → (Pw.go n p).2.on = false := by
  induction n with
  | zero => intro p h; exact absurd rfl h
  | succ n ih =>
    intro p h
    cases hc : p.can with
    | false => simp [Pw.go, hc, Pw.use]
    | true =>
      simp only [Pw.go, hc, if_true] at h ⊢
      exact ih p.use (by omega)

theorem go_diff (n : Nat) (p : Pw) (hn : n ≤ 5) : wrap64 ((Pw.go n p).2.uses - p.uses) = ((Pw.go n p).1 : Int) := by
  have h1 := go_uses n p
  have h2 := go_le n p
  generalize (Pw.go n p).2.uses = a at h1 ⊢
  generalize (Pw.go n p).1 = k at h1 h2 ⊢
  generalize p.uses = b at h1 ⊢
  unfold wrap64
  omega

end Go.Proofs.Ytmfnapbahkonhaa
