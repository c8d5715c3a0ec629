/- For DiscFlushed: sectors of one byte each, written from place 0 on, flushed, settled. -/
import Derived.Test.YtmfnapbahkonhaaDv
set_option linter.unusedVariables false
namespace Go.Proofs.Ytmfnapbahkonhaa
open Go.RowKit

/-- The i-th byte of a row of bytes. -/
def byAt (zs : List Int) (i : Nat) : UInt8 := UInt8.ofNat (zs.getD i 0).toNat

theorem byAt_val (zs : List Int) (i : Nat) (h : (Lit.int .u8 (zs.getD i 0)).wf = true) : zs.getD i 0 = ((byAt zs i).toNat : Int) := by
  unfold byAt
  generalize zs.getD i 0 = x at h ⊢
  have hb : 0 ≤ x ∧ x ≤ 255 := by
    simp [Lit.wf, IntKind.min, IntKind.max, IntKind.signed, IntKind.bits] at h
    omega
  rw [UInt8.toNat_ofNat']
  omega

/-- The first n of them are loose. -/
def solids (zs : List Int) (n : Nat) : Int → Option (List UInt8) := fun y => if 0 ≤ y ∧ y < n then some (solid (byAt zs y.toNat)) else none

theorem solids_zero (zs : List Int) : solids zs 0 = fun _ => none := by
  funext y
  exact if_neg (by omega)

theorem nth_solid (x : UInt8) : nth (solid x) 0 = solid x := by simp [nth, solid]

theorem putN_solids (zs : List Int) (j : Nat) : putN (solids zs j) j (solid (byAt zs j)) 1 = solids zs (j + 1) := by
  funext y
  rw [putN_eq]
  unfold solids
  by_cases h : (j : Int) ≤ y ∧ y < j + (1 : Nat)
  · have e : y = j := by omega
    subst e
    rw [if_pos h, if_pos (by omega), show ((j : Int) - j).toNat = 0 by omega, nth_solid]
    rfl
  · rw [if_neg h]
    by_cases h2 : 0 ≤ y ∧ y < j
    · rw [if_pos h2, if_pos (by omega)]
    · rw [if_neg h2, if_neg (by omega)]

theorem now_solids (S : List (List UInt8)) (zs : List Int) (n i : Nat) : now S (solids zs n) i = if i < n then solid (byAt zs i) else S.getD i [] := by
  unfold now solids
  by_cases h : i < n
  · rw [if_pos (by omega), if_pos h]; rfl
  · rw [if_neg (by omega), if_neg h]; rfl

theorem filter_range (n : Nat) : ∀ K, ((List.range K).filter fun i => decide (i < n)) = List.range (min n K)
  | 0 => by simp
  | K + 1 => by
    rw [List.range_succ, List.filter_append, filter_range n K]
    by_cases h : K < n
    · rw [Nat.min_eq_right (by omega), Nat.min_eq_right (by omega), List.range_succ]
      simp [h]
    · rw [Nat.min_eq_left (by omega), Nat.min_eq_left (by omega)]
      simp [h]

theorem places_solids (zs : List Int) (n K : Nat) (h : n ≤ K) : places K (solids zs n) = (List.range n).map Int.ofNat := by
  have e : ((List.range K).filter fun i : Nat => (solids zs n (i : Int)).isSome) = (List.range K).filter fun i => decide (i < n) := by
    refine List.filter_congr fun i _ => ?_
    unfold solids
    by_cases h : i < n
    · rw [if_pos (by omega)]; simp [h]
    · rw [if_neg (by omega)]; simp [h]
  rw [places, e, filter_range, Nat.min_eq_left h]

theorem places_none (K : Nat) : places K (fun _ => none) = [] := by simp [places]

theorem settle_solids (keep : List UInt8) (zs : List Int) (n : Nat) : ∀ (r i : Nat) (S : List (List UInt8)), i + r ≤ n → i + r ≤ S.length → ∀ k,
    (settle keep (solids zs n) ((List.range' i r).map Int.ofNat) i S).getD k [] = if i ≤ k ∧ k < i + r ∧ keepBit keep k = true then solid (byAt zs k) else S.getD k []
  | 0, i, S, _, _, k => by
    rw [if_neg (by omega)]
    rfl
  | r + 1, i, S, h1, h2, k => by
    have hS' : i + 1 + r ≤ (if keepBit keep i = true then S.set (Int.ofNat i).toNat ((solids zs n (Int.ofNat i)).getD []) else S).length := by
      split
      · rw [List.length_set]; omega
      · omega
    rw [List.range'_succ, List.map_cons, settle, settle_solids keep zs n r (i + 1) _ (by omega) hS']
    have hM : ((solids zs n (Int.ofNat i)).getD []) = solid (byAt zs i) := by
      unfold solids
      rw [if_pos (by simp only [Int.ofNat_eq_natCast]; omega)]
      rfl
    have ht : (Int.ofNat i).toNat = i := rfl
    rw [hM, ht]
    by_cases hk : k = i
    · subst hk
      rw [if_neg (by omega)]
      cases hb : keepBit keep k with
      | true =>
        rw [if_pos rfl, if_pos ⟨Nat.le_refl _, by omega, rfl⟩, List.getD_eq_getElem?_getD, List.getElem?_set_self (by omega)]
        rfl
      | false => rw [if_neg (show ¬ (false = true) by simp), if_neg (by simp)]
    · have e : (if keepBit keep i = true then S.set i (solid (byAt zs i)) else S).getD k [] = S.getD k [] := by
        split
        · rw [List.getD_eq_getElem?_getD, List.getElem?_set_ne (by omega), ← List.getD_eq_getElem?_getD]
        · rfl
      rw [e]
      by_cases hc : i + 1 ≤ k ∧ k < i + 1 + r ∧ keepBit keep k = true
      · rw [if_pos hc, if_pos ⟨by omega, by omega, hc.2.2⟩]
      · rw [if_neg hc, if_neg (fun h => hc ⟨by omega, by omega, h.2.2⟩)]

theorem range_eq (n : Nat) : List.range n = List.range' 0 n := List.range_eq_range'

/-- One use of power that is there and has no fuse. -/
theorem go_one (p : Pw) (h : p.can = true) : Pw.go 1 p = (1, p.use) := by
  rw [Pw.go, h, if_pos rfl, Pw.go]

/-- Power that is there and has no fuse. -/
def Pw.free (p : Pw) : Prop := p.on = true ∧ p.fuse = -1
theorem Pw.free.can {p : Pw} (h : p.free) : p.can = true := by simp [Pw.can, h.1, h.2]
theorem Pw.free.use {p : Pw} (h : p.free) : p.use.free := by
  unfold Pw.use
  rw [h.can, if_pos rfl]
  exact ⟨rfl, by rw [h.2]; rfl⟩

theorem vWriteOne {w : World} {d m s b N : Nat} {p : Pw} {S : List (List UInt8)} {zs : List Int} {j : Nat} {W : World} (h : Dv w d m s b N p S (solids zs j) W) (hp : p.free) (hj : j < S.length) (hN : N ≤ 100000) :
    Calls Try.prog 40 #[.pointer (some ⟨d, 0, none⟩), .int .i64 j, .string ⟨(solid (byAt zs j)).toArray⟩] W fun e w' => e = .returned (.int .i64 0) ∧ Dv w d m s b (N + 1) p.use S (solids zs (j + 1)) w' := by
  have hm := h.isD.max
  have := vWrite h j (solid (byAt zs j)) 1 (by rw [solid_length]; decide) (solid_length _) (by simp only [fits, Bool.and_eq_true, decide_eq_true_eq]; omega) (by unfold maxLen; omega)
  rw [go_one p hp.can, if_pos rfl, putN_solids] at this
  exact this

theorem nows_none (S : List (List UInt8)) : nows S (fun _ => none) 0 S.length = S.flatten := by
  unfold nows
  congr 1
  apply List.ext_getElem
  · simp
  · intro i h1 h2
    simp [now, List.getD_eq_getElem?_getD, List.getElem?_eq_getElem h2]

theorem nows_one (S : List (List UInt8)) (M : Int → Option (List UInt8)) (i : Nat) : nows S M i 1 = now S M i := by simp [nows, List.range_succ]

end Go.Proofs.Ytmfnapbahkonhaa
