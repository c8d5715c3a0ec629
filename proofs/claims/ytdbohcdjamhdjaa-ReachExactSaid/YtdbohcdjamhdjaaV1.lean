import Derived.WalkKit
import Derived.WalkSmall
import Derived.Lib.FrozenHead
/- A frame for calls: the blocks of a set X stand as they stood. Of no program. -/
set_option linter.unusedVariables false
namespace Go.Proofs.Ytdbohcdjamhdjaa
open Go.RowKit

/-- The blocks of X stand as they stood; nothing is printed, no block goes. -/
structure KeptIn (X : Nat → Prop) (w w' : World) : Prop where
  os : w'.os = w.os
  tape : w'.tape = w.tape
  output : w'.output = w.output
  size : w.heap.size ≤ w'.heap.size
  block : ∀ k, X k → w'.heap[k]? = w.heap[k]?

theorem KeptIn.refl (X : Nat → Prop) (w : World) : KeptIn X w w := ⟨rfl, rfl, rfl, Nat.le_refl _, fun _ _ => rfl⟩
theorem KeptIn.trans {X : Nat → Prop} {a b c : World} (h : KeptIn X a b) (k : KeptIn X b c) : KeptIn X a c :=
  ⟨k.os.trans h.os, k.tape.trans h.tape, k.output.trans h.output, Nat.le_trans h.size k.size, fun i hi => (k.block i hi).trans (h.block i hi)⟩
theorem KeptIn.mono {X Y : Nat → Prop} {a b : World} (h : KeptIn X a b) (hY : ∀ k, Y k → X k) : KeptIn Y a b :=
  ⟨h.os, h.tape, h.output, h.size, fun k hk => h.block k (hY k hk)⟩
theorem KeptIn.of_below {X : Nat → Prop} {B : Nat} {a b : World} (h : Below B a b) (hX : ∀ k, X k → k < B) : KeptIn X a b :=
  ⟨h.os, h.tape, h.output, h.size, fun k hk => h.block k (hX k hk)⟩
theorem KeptIn.below {B : Nat} {a b : World} (h : KeptIn (· < B) a b) : Below B a b := ⟨h.os, h.tape, h.output, h.size, h.block⟩
theorem KeptIn.drewN {X : Nat → Prop} {a b : World} (h : KeptIn X a b) (n : Nat) : KeptIn X a (b.drewN n) :=
  ⟨h.os, h.tape, h.output, h.size, h.block⟩
theorem KeptIn.drew {X : Nat → Prop} {a b : World} (h : KeptIn X a b) : KeptIn X a b.drew := ⟨h.os, h.tape, h.output, h.size, h.block⟩
theorem KeptIn.setCell {X : Nat → Prop} {a b : World} (h : KeptIn X a b) {p : Addr} (hp : ¬ X p.block) (v : Value) : KeptIn X a (b.setCell p v) :=
  h.trans ⟨rfl, rfl, rfl, by simp [World.setCell], fun k hk => Below.heap_setCell _ _ _ _ (fun e => hp (e ▸ hk))⟩
theorem KeptIn.alloc {X : Nat → Prop} {a b : World} (h : KeptIn X a b) (hX : ∀ k, X k → k < a.heap.size) (o : Obj) : KeptIn X a (b.alloc o) :=
  h.trans ⟨rfl, rfl, rfl, by simp, fun k hk => Lib.alloc_old b o k (Nat.lt_of_lt_of_le (hX k hk) h.size)⟩
theorem KeptIn.grown {X : Nat → Prop} {a b c : World} {row : Option Nat} (h : KeptIn X a b) (hX : ∀ k, X k → k < a.heap.size) (hg : b.grownBy c row) (hr : ∀ g, row = some g → ¬ X g) : KeptIn X a c :=
  h.trans ⟨hg.os, hg.tape, hg.output, hg.size, fun k hk => hg.block k (Nat.lt_of_lt_of_le (hX k hk) h.size) (fun e => hr k e.symm hk)⟩
theorem KeptIn.freeze {X : Nat → Prop} {a b : World} (h : KeptIn X a b) {p : Addr} (hp : ¬ X p.block) (n : Nat) : KeptIn X a (b.freeze p n) := by
  refine h.trans ?_
  unfold World.freeze
  split
  · exact .refl X b
  · exact ⟨rfl, rfl, rfl, by simp, fun k hk => by
      simp only [Array.getElem?_modify]
      rw [if_neg]
      rintro rfl
      exact hp hk⟩
theorem KeptIn.lt {X : Nat → Prop} {a b : World} (h : KeptIn X a b) (hX : ∀ k, X k → k < a.heap.size) : ∀ k, X k → k < b.heap.size :=
  fun k hk => Nat.lt_of_lt_of_le (hX k hk) h.size

/-- What a cell holds, in whatever world. -/
def cellOf (w : World) (a : Addr) : Value := (w.cell? a).getD (.pointer none)
theorem cellOf_eq {w : World} {a : Addr} {v : Value} (h : w.cell? a = some v) : w.cell? a = some (cellOf w a) := by rw [cellOf, h]; rfl

end Go.Proofs.Ytdbohcdjamhdjaa
/- Rows of pairs, nodes: the mathematics of layer 5 without bytes. Of no program. -/
set_option linter.unusedVariables false
namespace Go.Proofs.Ytdbohcdjamhdjaa
open Go.RowKit

/-- A row of pairs. -/
abbrev Pairs := List (Nat × Nat)
def keyAt (ps : Pairs) (i : Nat) : Nat := (ps.getD i (0, 0)).1
def valAt (ps : Pairs) (i : Nat) : Nat := (ps.getD i (0, 0)).2
/-- Each key is above the one ahead of it. -/
def rises (ps : Pairs) : Bool := (List.range (ps.length - 1)).all fun i => decide (keyAt ps i < keyAt ps (i + 1))
def pagesOk (ps : Pairs) : Bool := ps.all fun p => decide (1 ≤ p.2) && decide (p.2 ≤ 511)
def countOk (lv : Int) (n : Nat) : Bool := decide (0 ≤ lv) && decide (lv ≤ 7) && decide (n ≤ 15) && (decide (lv = 0) || decide (0 < n))
/-- Whether a node can be. -/
def goodN (lv : Int) (ps : Pairs) : Bool := countOk lv ps.length && rises ps && (decide (lv = 0) || pagesOk ps)
/-- Keys and values are numbers of eight bytes. -/
def Fits (ps : Pairs) : Prop := ∀ p ∈ ps, p.1 < 18446744073709551616 ∧ p.2 < 18446744073709551616

theorem rises_iff (ps : Pairs) : rises ps = true ↔ ∀ i, i + 1 < ps.length → keyAt ps i < keyAt ps (i + 1) := by
  unfold rises
  rw [List.all_eq_true]
  constructor
  · intro h i hi
    exact of_decide_eq_true (h i (List.mem_range.2 (by omega)))
  · intro h i hi
    exact decide_eq_true (h i (by have := List.mem_range.1 hi; omega))

theorem rises_false {ps : Pairs} (i : Nat) (hi : i + 1 < ps.length) (h : keyAt ps (i + 1) ≤ keyAt ps i) : rises ps = false := by
  rw [Bool.eq_false_iff]
  intro h1
  have := (rises_iff ps).1 h1 i hi
  omega

theorem keyAt_get {ps : Pairs} {i : Nat} (h : i < ps.length) : keyAt ps i = ps[i].1 := by unfold keyAt; rw [List.getD_eq_getElem?_getD, List.getElem?_eq_getElem h]; rfl
theorem valAt_get {ps : Pairs} {i : Nat} (h : i < ps.length) : valAt ps i = ps[i].2 := by unfold valAt; rw [List.getD_eq_getElem?_getD, List.getElem?_eq_getElem h]; rfl
theorem at_get {ps : Pairs} {i : Nat} (h : i < ps.length) : ps[i]? = some (keyAt ps i, valAt ps i) := by rw [keyAt_get h, valAt_get h, List.getElem?_eq_getElem h]
theorem Fits.at {ps : Pairs} (h : Fits ps) {i : Nat} (hi : i < ps.length) : keyAt ps i < 18446744073709551616 ∧ valAt ps i < 18446744073709551616 := by
  rw [keyAt_get hi, valAt_get hi]
  exact h _ (List.getElem_mem hi)

theorem pagesOk_iff (ps : Pairs) : pagesOk ps = true ↔ ∀ i, i < ps.length → 1 ≤ valAt ps i ∧ valAt ps i ≤ 511 := by
  unfold pagesOk
  rw [List.all_eq_true]
  constructor
  · intro h i hi
    have := h _ (List.getElem_mem hi)
    simpa [valAt_get hi] using this
  · intro h p hp
    obtain ⟨i, hi, rfl⟩ := List.getElem_of_mem hp
    have := h i hi
    rw [valAt_get hi] at this
    simpa using this

/-- Where pairs rise, the keys do. -/
theorem rises_lt {ps : Pairs} (h : rises ps = true) : ∀ {i j : Nat}, i < j → j < ps.length → keyAt ps i < keyAt ps j := by
  intro i j hij hj
  induction j with
  | zero => omega
  | succ j ih =>
    have h1 := (rises_iff ps).1 h j hj
    rcases Nat.lt_or_ge i j with h2 | h2
    · exact Nat.lt_trans (ih h2 (by omega)) h1
    · obtain rfl : i = j := by omega
      exact h1

theorem good_parts {lv : Int} {ps : Pairs} (h : goodN lv ps = true) : 0 ≤ lv ∧ lv ≤ 7 ∧ ps.length ≤ 15 := by
  simp only [goodN, countOk, Bool.and_eq_true, decide_eq_true_eq] at h
  exact ⟨h.1.1.1.1.1, h.1.1.1.1.2, h.1.1.1.2⟩

end Go.Proofs.Ytdbohcdjamhdjaa
