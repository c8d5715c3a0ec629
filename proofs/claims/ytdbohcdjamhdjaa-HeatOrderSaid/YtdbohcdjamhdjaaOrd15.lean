/- HeatOrder of layer 15: the mathematics: touches in whichever order. -/
import Derived.Test.YtdbohcdjamhdjaaHl15
set_option linter.unusedVariables false
namespace Go.Proofs.Ytdbohcdjamhdjaa
open Go.RowKit Go.Maps

/-- Touches one behind the other. -/
def tchL (f : Int → Nat) (l : List (Int × Int)) : Int → Nat := l.foldl (fun g p => tch g p.1 p.2) f
theorem tchL_snoc (f : Int → Nat) (l : List (Int × Int)) (p : Int × Int) : tchL f (l ++ [p]) = tch (tchL f l) p.1 p.2 := by
  unfold tchL; rw [List.foldl_append]; rfl
/-- How much a row of touches gives a chunk. -/
def amt (c : Int) (l : List (Int × Int)) : Nat := (l.map fun p => if p.1 = c ∧ 1 ≤ c ∧ c ≤ 1023 then p.2.toNat else 0).sum
theorem tch_amt (f : Int → Nat) (p : Int × Int) (c : Int) (h : f c ≤ 1048576) : tch f p.1 p.2 c = min 1048576 (f c + (if p.1 = c ∧ 1 ≤ c ∧ c ≤ 1023 then p.2.toNat else 0)) := by
  unfold tch
  by_cases e : p.1 = c
  · subst e
    by_cases h1 : 1 ≤ p.1 ∧ p.1 ≤ 1023 ∧ 0 < p.2
    · rw [if_pos h1, htS_same, if_pos ⟨rfl, h1.1, h1.2.1⟩]
    · rw [if_neg h1]
      split
      · rename_i h2
        have : p.2.toNat = 0 := by omega
        rw [this]; omega
      · omega
  · have e2 : ¬ (p.1 = c ∧ 1 ≤ c ∧ c ≤ 1023) := fun x => e x.1
    rw [if_neg e2]
    split
    · rw [htS_other _ _ (fun x => e x.symm)]; omega
    · omega
theorem tchL_amt : ∀ (l : List (Int × Int)) (f : Int → Nat), (∀ c, f c ≤ 1048576) → ∀ c, tchL f l c = min 1048576 (f c + amt c l) := by
  intro l
  induction l with
  | nil =>
    intro f hf c
    have := hf c
    show f c = min 1048576 (f c + 0)
    omega
  | cons p r ih =>
    intro f hf c
    have h1 : ∀ d, tch f p.1 p.2 d ≤ 1048576 := fun d => by rw [tch_amt f p d (hf d)]; omega
    show tchL (tch f p.1 p.2) r c = _
    rw [ih _ h1 c, tch_amt f p c (hf c)]
    have : amt c (p :: r) = (if p.1 = c ∧ 1 ≤ c ∧ c ≤ 1023 then p.2.toNat else 0) + amt c r := by unfold amt; rw [List.map_cons, List.sum_cons]
    rw [this]
    omega
theorem amt_perm {l k : List (Int × Int)} (h : l.Perm k) (c : Int) : amt c l = amt c k := (h.map _).sum_nat
/-- In whichever order. -/
theorem tchL_perm {l k : List (Int × Int)} (h : l.Perm k) : tchL (fun _ => 0) l = tchL (fun _ => 0) k := by
  funext c
  rw [tchL_amt l _ (fun _ => by omega) c, tchL_amt k _ (fun _ => by omega) c, amt_perm h]

/-- The touches of the law: numbers as they come. -/
def pairO (x y : Int) : Int × Int := (1 + IntKind.u64.wrap x % 20, y)
/-- The row of the first n. -/
def rowO (xs ys : List Int) (n : Nat) : List (Int × Int) := (List.range n).map fun i => pairO (xs.getD i 0) (ys.getD i 0)
theorem rowO_succ (xs ys : List Int) (n : Nat) : rowO xs ys (n + 1) = rowO xs ys n ++ [pairO (xs.getD n 0) (ys.getD n 0)] := by
  unfold rowO; rw [List.range_succ, List.map_append]; rfl
/-- .. and of the last n of k, backwards. -/
def rowR (xs ys : List Int) (k n : Nat) : List (Int × Int) := (List.range n).map fun i => pairO (xs.getD (k - 1 - i) 0) (ys.getD (k - 1 - i) 0)
theorem rowR_succ (xs ys : List Int) (k n : Nat) : rowR xs ys k (n + 1) = rowR xs ys k n ++ [pairO (xs.getD (k - 1 - n) 0) (ys.getD (k - 1 - n) 0)] := by
  unfold rowR; rw [List.range_succ, List.map_append]; rfl
theorem rowR_perm (xs ys : List Int) (k : Nat) : (rowR xs ys k k).Perm (rowO xs ys k) := by
  have e : rowR xs ys k k = (rowO xs ys k).reverse := by
    refine List.ext_getElem (by simp [rowR, rowO]) fun i h1 h2 => ?_
    simp [rowR, rowO]
  rw [e]
  exact List.reverse_perm _

end Go.Proofs.Ytdbohcdjamhdjaa
