/- Chunks as rows of sectors: what a write leaves of each; power without a fuse. -/
import Derived.Test.YtmfnapbahkonhaaLw18
import Derived.Test.YtmfnapbahkonhaaFl4
set_option linter.unusedVariables false
namespace Go.Proofs.Ytmfnapbahkonhaa
open Go.RowKit

theorem nth_flat_take (l : List UInt8) (n : Nat) (h : l.length = 16 * n) : ((List.range n).map fun i => nth l i).flatten = l := by
  have key : ∀ j, j ≤ n → ((List.range j).map fun i => nth l i).flatten = l.take (16 * j) := by
    intro j
    induction j with
    | zero => intro _; simp
    | succ j ih =>
      intro hj
      rw [List.range_succ, List.map_append, List.flatten_append, ih (by omega), show 16 * (j + 1) = 16 * j + 16 by omega, List.take_add]
      simp [nth]
  rw [key n (Nat.le_refl _), ← h, List.take_length]

section
variable {S : List (List UInt8)} {M : Int → Option (List UInt8)}
theorem now_put (x : Int) (l : List UInt8) (n i : Nat) : now S (putN M x l n) i = if x ≤ (i : Int) ∧ (i : Int) < x + n then nth l ((i : Int) - x).toNat else now S M i := by
  unfold now
  rw [putN_eq]
  split <;> rfl
theorem nows_put_out (x : Int) (l : List UInt8) (n a m : Nat) (h : ∀ i : Nat, i < m → ¬ (x ≤ ((a + i : Nat) : Int) ∧ ((a + i : Nat) : Int) < x + n)) : nows S (putN M x l n) a m = nows S M a m := by
  unfold nows
  congr 1
  refine List.map_congr_left fun i hi => ?_
  rw [List.mem_range] at hi
  rw [now_put, if_neg (h i hi)]
theorem nows_put_in (x : Nat) (l : List UInt8) (n : Nat) (h : l.length = 16 * n) : nows S (putN M (x : Int) l n) x n = l := by
  rw [← nth_flat_take l n h]
  unfold nows
  congr 1
  refine List.map_congr_left fun i hi => ?_
  rw [List.mem_range] at hi
  rw [now_put, if_pos (by omega), nth_flat_take l n h, show (((x + i : Nat) : Int) - (x : Int)).toNat = i by omega]
theorem nows_add (a m n : Nat) : nows S M a (m + n) = nows S M a m ++ nows S M (a + m) n := by
  unfold nows
  rw [List.range_add, List.map_append, List.flatten_append, List.map_map]
  congr 3
  funext i
  show now S M (a + (m + i)) = _
  rw [Nat.add_assoc]
end

/-- What a chunk has. -/
def chF (T : Nat → Dsk) (k t s : Nat) : List UInt8 := nows (T t).S (T t).M (s * k) k

section
variable {kk m k : Nat} {p : Pw} {T : Nat → Dsk} {W : World}
theorem chF_length (h : Dck kk m k p T W) {t s : Nat} (ht : t < 2) (hs : s < slN T k t) : (chF T k t s).length = 16 * k :=
  nows_length _ _ _ _ fun i hi => now_length (h.isD t ht) _ (by have := slN_fits hs; omega)
theorem chF_tier {t i s : Nat} {x : Dsk} (h : i ≠ t) : chF (upT T t x) k i s = chF T k i s := by
  unfold chF
  rw [upT_ne _ _ _ _ h]
/-- Another chunk of the tier. -/
theorem chF_ne {t s a n s' : Nat} {l : List UInt8} (hs : s' ≠ s) (hf : a + n ≤ k) : chF (upT T t ((T t).wr n ((s * k + a : Nat) : Int) l n)) k t s' = chF T k t s' := by
  unfold chF
  rw [upT_self]
  refine nows_put_out _ _ _ _ _ fun i hi => ?_
  rcases Nat.lt_or_ge s' s with h | h
  · have h1 : (s' + 1) * k ≤ s * k := Nat.mul_le_mul_right _ h
    rw [Nat.add_mul, Nat.one_mul] at h1
    omega
  · have h1 : (s + 1) * k ≤ s' * k := Nat.mul_le_mul_right _ (by omega)
    rw [Nat.add_mul, Nat.one_mul] at h1
    omega
/-- The chunk itself, written whole. -/
theorem chF_all {t s : Nat} {l : List UInt8} (hl : l.length = 16 * k) : chF (upT T t ((T t).wr k ((s * k + 0 : Nat) : Int) l k)) k t s = l := by
  unfold chF
  rw [upT_self]
  exact nows_put_in (s * k) l k hl
/-- The chunk itself, its last sector written. -/
theorem chF_last (h : Dck kk m k p T W) {t s : Nat} (ht : t < 2) (hs : s < slN T k t) {l : List UInt8} (hl : l.length = 16 * 1) : chF (upT T t ((T t).wr 1 ((s * k + (k - 1) : Nat) : Int) l 1)) k t s = (chF T k t s).take (16 * (k - 1)) ++ l := by
  obtain ⟨j, rfl⟩ : ∃ j, k = j + 1 := ⟨k - 1, by have := h.sz1; omega⟩
  unfold chF
  rw [upT_self, Nat.add_sub_cancel]
  show nows (T t).S (putN (T t).M ((s * (j + 1) + j : Nat) : Int) l 1) (s * (j + 1)) (j + 1) = _
  rw [nows_add, nows_add (M := (T t).M), nows_put_in _ l 1 hl, nows_put_out _ _ _ _ _ fun i hi => by omega]
  have hlen : (nows (T t).S (T t).M (s * (j + 1)) j).length = 16 * j := nows_length _ _ _ _ fun i hi => now_length (h.isD t ht) _ (by have := slN_fits hs; omega)
  rw [List.take_append_of_le_length (by rw [hlen]; exact Nat.le_refl _), List.take_of_length_le (by rw [hlen]; exact Nat.le_refl _)]
end

/-- Power without a fuse: as many uses as are wanted. -/
theorem go_free (n : Nat) : ∀ p : Pw, p.free → (Pw.go n p).1 = n ∧ (Pw.go n p).2.free := by
  induction n with
  | zero => intro p h; exact ⟨rfl, h⟩
  | succ n ih =>
    intro p h
    obtain ⟨h1, h2⟩ := ih p.use h.use
    rw [Pw.go, h.can, if_pos rfl]
    exact ⟨by rw [h1], h2⟩
theorem pw0_free : pw0.free := ⟨rfl, rfl⟩
theorem wrE_free (n : Nat) {p : Pw} (h : p.free) : wrE n p = 0 := if_pos (go_free n p h).1

end Go.Proofs.Ytmfnapbahkonhaa
