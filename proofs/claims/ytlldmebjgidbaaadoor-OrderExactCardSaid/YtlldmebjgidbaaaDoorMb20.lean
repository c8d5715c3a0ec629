/- Order, the mathematics: what the document's reference does with numbers; the runes of bytes. Of no program. -/
import Derived.Test.YtlldmebjgidbaaaDoorMa20
import Derived.Lib.RuneBytes
import Derived.WalkKit
set_option linter.unusedVariables false
namespace Go.Proofs.YtlldmebjgidbaaaDoor
open Go.Lib Go.RowKit

/-! ### Numbers, as the reference reads them -/

def valD (l : List UInt8) : Nat := l.foldl (fun u c => u * 10 + (c.toNat - 48)) 0

def absP (t : List UInt8) : List UInt8 := match t with
  | [] => []
  | c :: m => if c.toNat = 45 then m else c :: m

def negP (t : List UInt8) : Bool := match t with
  | [] => false
  | c :: m => decide (c.toNat = 45)

def valI (t : List UInt8) : Int := if negP t then wrap64 (-(valD (absP t) : Int)) else wrap64 (valD (absP t) : Int)

def numR (t : List UInt8) : Option Int :=
  if absP t = [] ∨ 19 < (absP t).length then none
  else if (absP t).all isDg = false then none
  else if itoa (valI t) = t then some (valI t) else none

theorem valD_snoc (l : List UInt8) (c : UInt8) : valD (l ++ [c]) = valD l * 10 + (c.toNat - 48) := by simp [valD]

theorem valD_dec (v : Nat) : valD (decDigits v) = v := by
  induction v using Nat.strongRecOn with
  | _ v ih =>
    by_cases h : v < 10
    · rw [decDigits, dif_pos h]
      have := (ofNat_dg v (by omega)).2.1
      simp only [valD, List.foldl]
      omega
    · rw [decDigits, dif_neg h, valD_snoc, ih _ (by omega), (ofNat_dg (v % 10) (by omega)).2.1]
      omega

theorem dec_len (v : Nat) (h : v ≤ 9223372036854775808) : (decDigits v).length ≤ 19 := by
  rw [decDigits_length]
  rcases Nat.lt_or_ge 19 (nDigits v) with k | k
  · exfalso
    have h2 := decDigits_length v
    have : ∀ k v, nDigits v = k + 1 → 10 ^ k ≤ v ∨ k = 0 := by
      intro k
      induction k with
      | zero => intro v _; exact Or.inr rfl
      | succ k ih =>
        intro v hv
        have hb : ¬ v < 10 := fun e => by rw [nDigits_small e] at hv; omega
        rw [nDigits_big hb] at hv
        rcases ih (v / 10) (by omega) with e | e
        · left; rw [Nat.pow_succ]; omega
        · left; subst e; simp; omega
    have hk := this (nDigits v - 1) v (by omega)
    rcases hk with e | e
    · have h3 : 10 ^ 19 ≤ 10 ^ (nDigits v - 1) := Nat.pow_le_pow_right (by decide) (by omega)
      have : (10 : Nat) ^ 19 = 10000000000000000000 := by decide
      omega
    · omega
  · exact k

theorem dec_head (v : Nat) : ∃ c m, decDigits v = c :: m ∧ isDg c = true := by
  have hp := dec_pos v
  have hg := dec_dg v
  generalize decDigits v = t at hp hg
  cases t with
  | nil => exact absurd rfl hp
  | cons c m => exact ⟨c, m, rfl, hg c (by simp)⟩

theorem numR_of (n : Int) (h1 : -9223372036854775808 ≤ n) (h2 : n ≤ 9223372036854775807) : numR (itoa n) = some n := by
  by_cases hn : n < 0
  · obtain ⟨far, rfl⟩ : ∃ far : Nat, n = -(far : Int) := ⟨n.natAbs, by omega⟩
    have hi := itoa_neg far (by omega)
    have ha : absP (itoa (-(far : Int))) = decDigits far := by rw [hi]; simp [absP]
    have hv : valI (itoa (-(far : Int))) = -(far : Int) := by
      unfold valI
      rw [ha, valD_dec, if_pos (by rw [hi]; simp [negP])]
      unfold wrap64
      omega
    unfold numR
    rw [ha, hv, if_neg (by rintro (e | e); exact dec_pos _ e; have := dec_len far (by omega); omega), if_neg, if_pos rfl]
    intro e
    rw [List.all_eq_true.2 (dec_dg far)] at e
    exact absurd e (by simp)
  · obtain ⟨far, rfl⟩ : ∃ far : Nat, n = (far : Int) := ⟨n.natAbs, by omega⟩
    have hi := itoa_nonneg far
    obtain ⟨c, m, hc, hg⟩ := dec_head far
    have hg' := of_decide_eq_true hg
    have ha : absP (itoa (far : Int)) = decDigits far := by rw [hi, hc]; simp only [absP]; rw [if_neg (by omega)]
    have hv : valI (itoa (far : Int)) = (far : Int) := by
      unfold valI
      rw [ha, valD_dec, if_neg (by rw [hi, hc]; simp only [negP, decide_eq_true_eq]; omega)]
      unfold wrap64
      omega
    unfold numR
    rw [ha, hv, if_neg (by rintro (e | e); exact dec_pos _ e; have := dec_len far (by omega); omega), if_neg, if_pos rfl]
    intro e
    rw [List.all_eq_true.2 (dec_dg far)] at e
    exact absurd e (by simp)

theorem wrap64_in (x : Int) : -9223372036854775808 ≤ wrap64 x ∧ wrap64 x ≤ 9223372036854775807 := by unfold wrap64; omega

theorem valI_in (t : List UInt8) : -9223372036854775808 ≤ valI t ∧ valI t ≤ 9223372036854775807 := by
  unfold valI
  split <;> exact wrap64_in _

theorem numR_eq (t : List UInt8) : numR t = numP t := by
  cases hp : numP t with
  | some n =>
    obtain ⟨h1, h2, rfl⟩ := (numP_iff t n).1 hp
    exact numR_of n h1 h2
  | none =>
    unfold numR
    split
    · rfl
    · split
      · rfl
      · split
        · rename_i he
          rw [← he, numP_itoa _ (valI_in t).1 (valI_in t).2] at hp
          exact absurd hp (by simp)
        · rfl

/-! ### The runes of bytes -/

def rs3 (x : UInt8) : List UInt8 := [226, UInt8.ofNat (160 + x.toNat / 64), UInt8.ofNat (128 + x.toNat % 64)]
def rs (l : List UInt8) : List UInt8 := l.flatMap rs3
def runesOf (l : List UInt8) : List UInt8 := if l = [] then [45] else rs l

theorem rs_nil : rs [] = [] := rfl
theorem rs_cons (x : UInt8) (l : List UInt8) : rs (x :: l) = rs3 x ++ rs l := by simp [rs]
theorem rs_app (a b : List UInt8) : rs (a ++ b) = rs a ++ rs b := by simp [rs]
theorem rs_len (l : List UInt8) : (rs l).length = 3 * l.length := by
  induction l with
  | nil => rfl
  | cons x l ih => rw [rs_cons, List.length_append, ih]; simp [rs3]; omega

theorem rs3_rune (x : UInt8) : Lib.encodeRune (10240 + (x.toNat : Int)) = rs3 x := by
  have := b8_lt x
  unfold encodeRune
  rw [encodeRuneZ_three (Or.inl ⟨by omega, by omega⟩)]
  simp only [List.map, rs3]
  rw [show ((224 : Int) + (10240 + (x.toNat : Int)) / 4096).toNat = 226 by omega, show ((128 : Int) + (10240 + (x.toNat : Int)) / 64 % 64).toNat = 160 + x.toNat / 64 by omega, show ((128 : Int) + (10240 + (x.toNat : Int)) % 64).toNat = 128 + x.toNat % 64 by omega]
  rfl

def is3 (l : List UInt8) : Bool := decide (2 < l.length ∧ (l.getD 0 0).toNat = 226 ∧ (160 ≤ (l.getD 1 0).toNat ∧ (l.getD 1 0).toNat ≤ 163) ∧ (128 ≤ (l.getD 2 0).toNat ∧ (l.getD 2 0).toNat ≤ 191))
def of3 (b c : UInt8) : UInt8 := UInt8.ofNat ((b.toNat - 160) * 64 + (c.toNat - 128))

/-- The bytes whose runes a text is. -/
def unr : List UInt8 → Option (List UInt8)
  | [] => some []
  | a :: b :: c :: m => if is3 [a, b, c] then (unr m).map (of3 b c :: ·) else none
  | _ => none

theorem of3_back (b c : UInt8) (h1 : 160 ≤ b.toNat ∧ b.toNat ≤ 163) (h2 : 128 ≤ c.toNat ∧ c.toNat ≤ 191) : rs3 (of3 b c) = [226, b, c] := by
  unfold rs3 of3
  have e : (UInt8.ofNat ((b.toNat - 160) * 64 + (c.toNat - 128))).toNat = (b.toNat - 160) * 64 + (c.toNat - 128) := by simp; omega
  rw [e, show 160 + ((b.toNat - 160) * 64 + (c.toNat - 128)) / 64 = b.toNat by omega, show 128 + ((b.toNat - 160) * 64 + (c.toNat - 128)) % 64 = c.toNat by omega]
  simp

theorem rs3_is (x : UInt8) : ∃ b c, rs3 x = [226, b, c] ∧ is3 [226, b, c] = true ∧ of3 b c = x := by
  have hx := b8_lt x
  refine ⟨_, _, rfl, ?_, ?_⟩
  · unfold is3
    refine decide_eq_true ⟨by simp, by simp, ?_, ?_⟩
    · simp only [List.getD, List.getElem?_cons_succ, List.getElem?_cons_zero, Option.getD]
      have e : (UInt8.ofNat (160 + x.toNat / 64)).toNat = 160 + x.toNat / 64 := by simp; omega
      rw [e]; omega
    · simp only [List.getD, List.getElem?_cons_succ, List.getElem?_cons_zero, Option.getD]
      have e : (UInt8.ofNat (128 + x.toNat % 64)).toNat = 128 + x.toNat % 64 := by simp; omega
      rw [e]; omega
  · unfold of3
    have e : (UInt8.ofNat (160 + x.toNat / 64)).toNat = 160 + x.toNat / 64 := by simp; omega
    have e' : (UInt8.ofNat (128 + x.toNat % 64)).toNat = 128 + x.toNat % 64 := by simp; omega
    rw [e, e', show (160 + x.toNat / 64 - 160) * 64 + (128 + x.toNat % 64 - 128) = x.toNat by omega]
    simp

theorem unr_rs (l : List UInt8) : unr (rs l) = some l := by
  induction l with
  | nil => rfl
  | cons x l ih =>
    obtain ⟨b, c, e1, e2, e3⟩ := rs3_is x
    rw [rs_cons, e1]
    simp only [List.cons_append, List.nil_append, unr]
    rw [if_pos e2, ih, e3]
    rfl

theorem is3_parts {a b c : UInt8} (h : is3 [a, b, c] = true) : a = 226 ∧ (160 ≤ b.toNat ∧ b.toNat ≤ 163) ∧ (128 ≤ c.toNat ∧ c.toNat ≤ 191) := by
  have := of_decide_eq_true h
  simp only [List.getD, List.getElem?_cons_succ, List.getElem?_cons_zero, Option.getD] at this
  exact ⟨UInt8.toNat_inj.1 this.2.1, this.2.2.1, this.2.2.2⟩

theorem rs_unr : ∀ (s l : List UInt8), unr s = some l → s = rs l
  | [], l, h => by simp only [unr, Option.some.injEq] at h; subst h; rfl
  | [_], l, h => by simp [unr] at h
  | [_, _], l, h => by simp [unr] at h
  | a :: b :: c :: m, l, h => by
    simp only [unr] at h
    split at h
    · rename_i h3
      obtain ⟨rfl, p, q⟩ := is3_parts h3
      cases hm : unr m with
      | none => rw [hm] at h; exact absurd h (by simp)
      | some k =>
        rw [hm] at h
        simp only [Option.map_some, Option.some.injEq] at h
        subst h
        rw [rs_cons, of3_back b c p q, rs_unr m k hm]
        rfl
    · exact absurd h (by simp)

theorem unr_iff (s l : List UInt8) : unr s = some l ↔ s = rs l := ⟨rs_unr s l, fun h => h ▸ unr_rs l⟩

/-- What a rune at hand says of the bytes. -/
theorem unr_run (l : List UInt8) (h : l ≠ []) :
    (10240 ≤ (decodeL l).1 ∧ (decodeL l).1 ≤ 10495 → (decodeL l).2 = 3 ∧ 3 ≤ l.length ∧ unr l = (unr (l.drop 3)).map (UInt8.ofNat ((decodeL l).1 - 10240) :: ·)) ∧
    (¬ (10240 ≤ (decodeL l).1 ∧ (decodeL l).1 ≤ 10495) → unr l = none) := by
  rw [decodeL_N]
  obtain ⟨x, k, hd⟩ : ∃ x k, decodeN l.length (l.getD 0 0).toNat (l.getD 1 0).toNat (l.getD 2 0).toNat (l.getD 3 0).toNat = (x, k) := ⟨_, _, rfl⟩
  have A := decN_dots _ _ _ _ _ x k (b8_lt _) (b8_lt _) (b8_lt _) (b8_lt _) hd
  have B := decN_ofdots l.length (l.getD 0 0).toNat (l.getD 1 0).toNat (l.getD 2 0).toNat (l.getD 3 0).toNat
  rw [hd] at B ⊢
  simp only [Prod.mk.injEq] at B
  simp only
  match l, h with
  | [_], _ => exact ⟨fun e => by have := (A e).2.1; simp at this, fun _ => rfl⟩
  | [_, _], _ => exact ⟨fun e => by have := (A e).2.1; simp at this, fun _ => rfl⟩
  | a :: b :: c :: m, _ =>
    have e0 : (a :: b :: c :: m).getD 0 0 = a := rfl
    have e1 : (a :: b :: c :: m).getD 1 0 = b := rfl
    have e2 : (a :: b :: c :: m).getD 2 0 = c := rfl
    rw [e0, e1, e2] at A B
    refine ⟨fun e => ?_, fun e => ?_⟩
    · obtain ⟨p0, p1, p2, p3, p4, p5⟩ := A e
      refine ⟨p0, by simp, ?_⟩
      simp only [unr]
      rw [if_pos (by unfold is3; exact decide_eq_true ⟨by simp, p2, p3, p4⟩)]
      have : of3 b c = UInt8.ofNat (x - 10240) := by
        unfold of3
        rw [show x - 10240 = (b.toNat - 160) * 64 + (c.toNat - 128) by omega]
      rw [this]
      rfl
    · simp only [unr]
      rw [if_neg]
      intro h3
      obtain ⟨q1, q2, q3⟩ := is3_parts h3
      have := B (by simp) (by rw [q1]; rfl) q2 q3
      omega

/-- The bytes whose runes a text is, - for none among them. -/
def bytS (s : List UInt8) : Option (List UInt8) := if s = [45] then some [] else if s = [] then none else unr s

theorem bytS_iff (s l : List UInt8) : bytS s = some l ↔ s = runesOf l := by
  unfold bytS runesOf
  split
  · rename_i h
    subst h
    constructor
    · intro e
      simp only [Option.some.injEq] at e
      rw [if_pos e.symm]
    · intro e
      split at e
      · rename_i hl; rw [hl]
      · have := congrArg List.length e
        rw [rs_len] at this
        simp at this
        omega
  · rename_i h1
    split
    · rename_i h
      subst h
      constructor
      · intro e; exact absurd e (by simp)
      · intro e
        split at e
        · exact absurd e (by simp)
        · rename_i hl
          have := congrArg List.length e
          rw [rs_len] at this
          simp at this
          exact absurd (List.length_eq_zero_iff.1 (by omega)) hl
    · rename_i h2
      rw [unr_iff]
      constructor
      · intro e
        rw [if_neg (fun hl => h2 (by rw [e, hl]; rfl))]
        exact e
      · intro e
        split at e
        · exact absurd e h1
        · exact e

/-- The triples of a text, whatever they are. -/
def tri : List UInt8 → List UInt8
  | a :: b :: c :: m => UInt8.ofNat ((64 * ((b.toNat + 96) % 256) + c.toNat + 128) % 256) :: tri m
  | _ => []

/-- Bytes, as the reference reads them. -/
def bytR (s : List UInt8) : Option (List UInt8) :=
  if s = [45] then some [] else if s = [] ∨ s.length % 3 ≠ 0 then none else if runesOf (tri s) = s then some (tri s) else none

theorem tri_rs (l : List UInt8) : tri (rs l) = l := by
  induction l with
  | nil => rfl
  | cons x l ih =>
    have hx := b8_lt x
    rw [rs_cons]
    simp only [rs3, List.cons_append, List.nil_append, tri]
    rw [ih]
    congr 1
    have e : (UInt8.ofNat (160 + x.toNat / 64)).toNat = 160 + x.toNat / 64 := by simp; omega
    have e' : (UInt8.ofNat (128 + x.toNat % 64)).toNat = 128 + x.toNat % 64 := by simp; omega
    rw [e, e', show (64 * ((160 + x.toNat / 64 + 96) % 256) + (128 + x.toNat % 64) + 128) % 256 = x.toNat by omega]
    simp

theorem bytR_eq (s : List UInt8) : bytR s = bytS s := by
  unfold bytR
  split
  · rename_i h
    unfold bytS
    rw [if_pos h]
  · rename_i h1
    split
    · rename_i h
      unfold bytS
      rw [if_neg h1]
      split
      · rfl
      · rename_i h2
        rcases h with h | h
        · exact absurd h h2
        · cases hu : unr s with
          | none => rfl
          | some l =>
            have := congrArg List.length (rs_unr s l hu)
            rw [rs_len] at this
            omega
    · rename_i h
      split
      · rename_i he
        exact ((bytS_iff s (tri s)).2 he.symm).symm
      · rename_i he
        cases hu : bytS s with
        | none => rfl
        | some l =>
          exfalso
          have hs := (bytS_iff s l).1 hu
          apply he
          have hl : l ≠ [] := fun e => h1 (by rw [hs, e]; rfl)
          have hr : s = rs l := by rw [hs]; unfold runesOf; rw [if_neg hl]
          rw [hr, tri_rs]
          unfold runesOf
          rw [if_neg hl]

end Go.Proofs.YtlldmebjgidbaaaDoor
