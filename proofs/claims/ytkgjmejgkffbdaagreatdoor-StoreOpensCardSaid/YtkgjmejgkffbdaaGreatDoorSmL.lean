import Derived.Test.YtkgjmejgkffbdaaGreatDoorDvL
import Derived.Test.YtkgjmejgkffbdaaGreatDoorM9
/- Stores: the mathematics of sectors and pages. -/
set_option linter.unusedVariables false
namespace Go.Proofs.YtkgjmejgkffbdaaGreatDoor
open Go.RowKit

/-! ### sectors -/
section
variable {S S' : List (List UInt8)} {M M' : Int → Option (List UInt8)}
theorem flushed_len (S : List (List UInt8)) (M : Int → Option (List UInt8)) : (flushed S M).length = S.length := by simp [flushed]
theorem flushed_get (i : Nat) (h : i < S.length) : (flushed S M).getD i [] = now S M i := by
  simp [flushed, List.getD_eq_getElem?_getD, h]
theorem now_of_none (S : List (List UInt8)) (i : Nat) : now S (fun _ => none) i = S.getD i [] := rfl
theorem now_of (i : Nat) (l : List UInt8) (h : M (i : Int) = some l) : now S M i = l := by simp [now, h]
theorem now_not (i : Nat) (h : M (i : Int) = none) : now S M i = S.getD i [] := by simp [now, h]
theorem nows_congr (a n : Nat) (h : ∀ i, i < n → now S M (a + i) = now S' M' (a + i)) : nows S M a n = nows S' M' a n := by
  unfold nows
  congr 1
  exact List.map_congr_left fun i hi => h i (List.mem_range.1 hi)
end

theorem nth_join (l : List UInt8) (n : Nat) : ((List.range n).map fun i => nth l i).flatten = l.take (16 * n) := by
  induction n with
  | zero => simp
  | succ n ih => rw [List.range_succ, List.map_append, List.flatten_append, ih, show 16 * (n + 1) = 16 * n + 16 by omega, List.take_add]; simp [nth]

/-- The bytes of page q, as the device has them safe. -/
def pageB (S : List (List UInt8)) (q : Nat) : List UInt8 := nows S (fun _ => none) (16 * q) 16

theorem pageB_congr {S S' : List (List UInt8)} (q : Nat) (h : ∀ i, i < 16 → S.getD (16 * q + i) [] = S'.getD (16 * q + i) []) : pageB S q = pageB S' q :=
  nows_congr _ _ fun i hi => h i hi

theorem pageB_of {S : List (List UInt8)} (q : Nat) (l : List UInt8) (hl : l.length = 256) (h : ∀ i, i < 16 → S.getD (16 * q + i) [] = nth l i) : pageB S q = l := by
  have e : nows S (fun _ => none) (16 * q) 16 = ((List.range 16).map fun i => nth l i).flatten := by
    unfold nows
    congr 1
    exact List.map_congr_left fun i hi => h i (List.mem_range.1 hi)
  rw [pageB, e, nth_join, List.take_of_length_le (by omega)]

/-! ### power -/
theorem go_le7 (n : Nat) : ∀ p : Pw, (Pw.go n p).1 ≤ n := by
  induction n with
  | zero => intro p; simp [Pw.go]
  | succ n ih =>
    intro p
    rw [Pw.go]
    split
    · have := ih p.use; simp only; omega
    · simp
/-- Power that is there and has no fuse. -/
def Pw.sure (p : Pw) : Prop := p.on = true ∧ p.fuse < 0
theorem Pw.sure.can {p : Pw} (h : p.sure) : p.can = true := by
  have h1 := h.1; have h2 := h.2
  have h3 : p.fuse ≠ 0 := by omega
  simp [Pw.can, h1, h3]
theorem Pw.sure.use {p : Pw} (h : p.sure) : p.use.sure := by
  unfold Pw.use
  rw [h.can, if_pos rfl]
  refine ⟨rfl, ?_⟩
  show (if p.fuse < 0 then p.fuse else p.fuse - 1) < 0
  rw [if_pos h.2]
  exact h.2
theorem Pw.sure.go {n : Nat} : ∀ {p : Pw}, p.sure → (Pw.go n p).1 = n ∧ (Pw.go n p).2.sure := by
  induction n with
  | zero => intro p h; exact ⟨rfl, h⟩
  | succ n ih =>
    intro p h
    rw [Pw.go, h.can, if_pos rfl]
    exact ⟨by rw [(ih h.use).1], (ih h.use).2⟩
theorem pw0_sure : pw0.sure := ⟨rfl, by decide⟩
theorem Pw.can_of_go {n : Nat} {p : Pw} (h : (Pw.go (n + 1) p).1 ≠ 0) : p.on = true := by
  rw [Pw.go] at h
  split at h
  · rename_i hc
    simp only [Pw.can, Bool.and_eq_true] at hc
    exact hc.1
  · exact absurd rfl h

/-! ### pages -/
/-- What a store knows of a page: 0 free, 1 new, 2 committed; its bytes. -/
abbrev Pag := Nat × List UInt8
def pag0 : Pag := (0, [])
def stOf (P : List Pag) (q : Nat) : Nat := (P.getD q pag0).1
def txOf (P : List Pag) (q : Nat) : List UInt8 := (P.getD q pag0).2
theorem stOf_set (P : List Pag) (q r : Nat) (g : Pag) (hq : q < P.length) : stOf (P.set q g) r = if r = q then g.1 else stOf P r := by
  unfold stOf
  rw [List.getD_eq_getElem?_getD, List.getD_eq_getElem?_getD]
  by_cases e : r = q
  · subst e; rw [List.getElem?_set_self hq, if_pos rfl]; rfl
  · rw [List.getElem?_set_ne (fun h => e h.symm), if_neg e]
theorem txOf_set (P : List Pag) (q r : Nat) (g : Pag) (hq : q < P.length) : txOf (P.set q g) r = if r = q then g.2 else txOf P r := by
  unfold txOf
  rw [List.getD_eq_getElem?_getD, List.getD_eq_getElem?_getD]
  by_cases e : r = q
  · subst e; rw [List.getElem?_set_self hq, if_pos rfl]; rfl
  · rw [List.getElem?_set_ne (fun h => e h.symm), if_neg e]
theorem stOf_ge (P : List Pag) (q : Nat) (h : P.length ≤ q) : stOf P q = 0 := by
  unfold stOf
  rw [List.getD_eq_getElem?_getD, List.getElem?_eq_none h]; rfl
theorem stOf_get (P : List Pag) (q : Nat) (h : q < P.length) : stOf P q = P[q].1 := by
  unfold stOf
  rw [List.getD_eq_getElem?_getD, List.getElem?_eq_getElem h]; rfl
theorem txOf_get (P : List Pag) (q : Nat) (h : q < P.length) : txOf P q = P[q].2 := by
  unfold txOf
  rw [List.getD_eq_getElem?_getD, List.getElem?_eq_getElem h]; rfl

/-- The writing of new pages among some, in their order. -/
def wNew (P : List Pag) : List Nat → (Int → Option (List UInt8)) → Pw → Bool × (Int → Option (List UInt8)) × Pw
  | [], M, p => (true, M, p)
  | q :: r, M, p => if stOf P q = 1 then (if (Pw.go 16 p).1 = 16 then wNew P r (putN M ((16 * q : Nat) : Int) (txOf P q) 16) (Pw.go 16 p).2 else (false, putN M ((16 * q : Nat) : Int) (txOf P q) (Pw.go 16 p).1, (Pw.go 16 p).2)) else wNew P r M p

/-- Sector x lies in a new page among these. -/
def inNew (P : List Pag) (l : List Nat) (x : Nat) : Prop := ∃ q, q ∈ l ∧ stOf P q = 1 ∧ 16 * q ≤ x ∧ x < 16 * q + 16

theorem wNew_other (P : List Pag) : ∀ (l : List Nat) (M : Int → Option (List UInt8)) (p : Pw) (x : Int), (∀ q ∈ l, stOf P q = 1 → ¬ ((16 * q : Nat) ≤ x ∧ x < (16 * q : Nat) + 16)) → (wNew P l M p).2.1 x = M x
  | [], M, p, x, h => rfl
  | q :: r, M, p, x, h => by
    have hr : ∀ q' ∈ r, stOf P q' = 1 → ¬ ((16 * q' : Nat) ≤ x ∧ x < (16 * q' : Nat) + 16) := fun q' hq' => h q' (List.mem_cons_of_mem _ hq')
    rw [wNew]
    split
    · rename_i h1
      have h2 := h q (by simp) h1
      split
      · rw [wNew_other P r _ _ x hr, putN_eq, if_neg (by omega)]
      · have h3 := go_le7 16 p
        simp only
        rw [putN_eq, if_neg (by omega)]
    · exact wNew_other P r M p x hr

theorem wNew_sure (P : List Pag) : ∀ (l : List Nat) (M : Int → Option (List UInt8)) (p : Pw), p.sure → (wNew P l M p).1 = true ∧ (wNew P l M p).2.2.sure
  | [], M, p, h => ⟨rfl, h⟩
  | q :: r, M, p, h => by
    rw [wNew]
    split
    · rw [if_pos h.go.1]
      exact wNew_sure P r _ _ h.go.2
    · exact wNew_sure P r M p h

/-- What was written ahead stays, or is written again alike. -/
theorem wNew_stays (P : List Pag) (q : Nat) (i : Nat) (hi : i < 16) : ∀ (l : List Nat) (M : Int → Option (List UInt8)) (p : Pw), M ((16 * q + i : Nat) : Int) = some (nth (txOf P q) i) → (wNew P l M p).2.1 ((16 * q + i : Nat) : Int) = some (nth (txOf P q) i)
  | [], M, p, h => h
  | q' :: r, M, p, h => by
    have key : ∀ n, n ≤ 16 → putN M ((16 * q' : Nat) : Int) (txOf P q') n ((16 * q + i : Nat) : Int) = some (nth (txOf P q) i) := fun n hn => by
      rw [putN_eq]
      split
      · rename_i hc
        obtain rfl : q' = q := by omega
        rw [show (((16 * q' + i : Nat) : Int) - ((16 * q' : Nat) : Int)).toNat = i by omega]
      · exact h
    rw [wNew]
    split
    · split
      · exact wNew_stays P q i hi r _ _ (key 16 (Nat.le_refl _))
      · exact key _ (go_le7 16 p)
    · exact wNew_stays P q i hi r M p h

theorem wNew_put (P : List Pag) (q : Nat) (hq : stOf P q = 1) (i : Nat) (hi : i < 16) : ∀ (l : List Nat) (M : Int → Option (List UInt8)) (p : Pw), q ∈ l → (wNew P l M p).1 = true → (wNew P l M p).2.1 ((16 * q + i : Nat) : Int) = some (nth (txOf P q) i)
  | [], M, p, h, _ => absurd h (by simp)
  | q' :: r, M, p, h, ho => by
    rw [wNew] at ho ⊢
    by_cases e : q' = q
    · subst e
      rw [if_pos hq] at ho ⊢
      by_cases hg : (Pw.go 16 p).1 = 16
      · rw [if_pos hg]
        refine wNew_stays P q' i hi r _ _ ?_
        rw [putN_eq, if_pos (by omega), show (((16 * q' + i : Nat) : Int) - ((16 * q' : Nat) : Int)).toNat = i by omega]
      · rw [if_neg hg] at ho
        cases ho
    · have hr : q ∈ r := by simpa [show q ≠ q' from fun h => e h.symm] using h
      by_cases h1 : stOf P q' = 1
      · rw [if_pos h1] at ho ⊢
        by_cases hg : (Pw.go 16 p).1 = 16
        · rw [if_pos hg] at ho ⊢
          exact wNew_put P q hq i hi r _ _ hr ho
        · rw [if_neg hg] at ho
          cases ho
      · rw [if_neg h1] at ho ⊢
        exact wNew_put P q hq i hi r M p hr ho

/-! ### how many -/
/-- How many of the numbers from 1 to n - 1 are so. -/
def cntB (f : Nat → Bool) (n : Nat) : Nat := ((List.range n).filter fun i => decide (1 ≤ i) && f i).length
theorem cntB_succ (f : Nat → Bool) (n : Nat) : cntB f (n + 1) = cntB f n + if (decide (1 ≤ n) && f n) = true then 1 else 0 := by
  unfold cntB
  rw [List.range_succ, List.filter_append, List.length_append]
  congr 1
  cases h : (decide (1 ≤ n) && f n) with
  | true => simp only [List.filter, h]; rfl
  | false => simp only [List.filter, h]; rfl
theorem cntB_le (f : Nat → Bool) (n : Nat) : cntB f n ≤ n - 1 := by
  induction n with
  | zero => exact Nat.le_refl _
  | succ n ih =>
    rw [cntB_succ]
    by_cases h : (decide (1 ≤ n) && f n) = true
    · rw [if_pos h]
      simp only [Bool.and_eq_true, decide_eq_true_eq] at h
      omega
    · rw [if_neg h]; omega
theorem cntB_congr {f g : Nat → Bool} {n : Nat} (h : ∀ i, 1 ≤ i → i < n → f i = g i) : cntB f n = cntB g n := by
  induction n with
  | zero => rfl
  | succ n ih =>
    rw [cntB_succ, cntB_succ, ih fun i h1 h2 => h i h1 (by omega)]
    by_cases h1 : 1 ≤ n
    · rw [h n h1 (by omega)]
    · rw [decide_eq_false h1]; rfl
theorem cntB_one (f : Nat → Bool) (n : Nat) (h : n ≤ 1) : cntB f n = 0 := by have := cntB_le f n; omega
/-- Just those from a on, below b. -/
theorem cntB_between (a b n : Nat) (ha : 1 ≤ a) (hab : a ≤ b) : cntB (fun i => decide (a ≤ i) && decide (i < b)) n = min n b - min n a := by
  induction n with
  | zero => simp [cntB]
  | succ n ih =>
    rw [cntB_succ, ih]
    by_cases h : a ≤ n ∧ n < b
    · rw [if_pos (by simp; omega)]; omega
    · rw [if_neg (by simp; omega)]; omega

/-- The lowest free page. -/
def freeP (P : List Pag) : Option Nat := (List.range P.length).find? fun q => decide (1 ≤ q) && decide (stOf P q = 0)
theorem freeP_some {P : List Pag} {q : Nat} (h : freeP P = some q) : 1 ≤ q ∧ q < P.length ∧ stOf P q = 0 := by
  have h1 := List.find?_some h
  have h2 := List.mem_of_find?_eq_some h
  simp only [Bool.and_eq_true, decide_eq_true_eq] at h1
  exact ⟨h1.1, List.mem_range.1 h2, h1.2⟩
theorem freeP_none {P : List Pag} (h : freeP P = none) (q : Nat) (h1 : 1 ≤ q) (h2 : q < P.length) : stOf P q ≠ 0 := by
  have := List.find?_eq_none.1 h q (List.mem_range.2 h2)
  simp only [Bool.and_eq_true, decide_eq_true_eq] at this
  exact fun h => this ⟨h1, h⟩
theorem freeP_first {P : List Pag} {q : Nat} (h : freeP P = some q) (r : Nat) (h1 : 1 ≤ r) (hr : r < q) : stOf P r ≠ 0 := by
  obtain ⟨_, hq, _⟩ := freeP_some h
  unfold freeP at h
  rw [List.find?_eq_some_iff_append] at h
  obtain ⟨_, xs, ys, hab, hall⟩ := h
  have hm : r ∈ xs := by
    have hp : (List.range P.length).Pairwise (· < ·) := List.pairwise_lt_range
    have hm : r ∈ List.range P.length := List.mem_range.2 (by omega)
    rw [hab] at hp hm
    rw [List.mem_append, List.mem_cons] at hm
    rcases hm with hm | hm | hm
    · exact hm
    · omega
    · have := (List.pairwise_cons.1 (List.pairwise_append.1 hp).2.1).1 r hm
      omega
  intro h0
  have := hall r hm
  simp [h1, h0] at this
theorem freeP_is {P : List Pag} {q : Nat} (h1 : 1 ≤ q) (h2 : q < P.length) (h3 : stOf P q = 0) (h4 : ∀ r, 1 ≤ r → r < q → stOf P r ≠ 0) : freeP P = some q := by
  cases h : freeP P with
  | none => exact absurd h3 (freeP_none h q h1 h2)
  | some r =>
    obtain ⟨a, b, c⟩ := freeP_some h
    rcases Nat.lt_trichotomy r q with e | e | e
    · exact absurd c (h4 r a e)
    · rw [e]
    · exfalso
      unfold freeP at h
      rw [List.find?_eq_some_iff_append] at h
      obtain ⟨_, xs, ys, hab, hall⟩ := h
      have hq : q ∈ xs := by
        have hp : (List.range P.length).Pairwise (· < ·) := List.pairwise_lt_range
        have hm : q ∈ List.range P.length := List.mem_range.2 h2
        rw [hab] at hp hm
        rw [List.mem_append, List.mem_cons] at hm
        rcases hm with hm | hm | hm
        · exact hm
        · omega
        · have := (List.pairwise_cons.1 (List.pairwise_append.1 hp).2.1).1 q hm
          omega
      have := hall q hq
      simp [h1, h3] at this

end Go.Proofs.YtkgjmejgkffbdaaGreatDoor
