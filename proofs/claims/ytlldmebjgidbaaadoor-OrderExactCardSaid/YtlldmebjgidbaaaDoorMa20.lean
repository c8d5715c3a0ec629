/- Order, the mathematics: digits of two kinds, the runes of bytes. Of no program. -/
import Derived.Lib.TrimUEq
import Derived.Lib.ItoaNum
import Derived.Lib.ItoaMem
set_option linter.unusedVariables false
namespace Go.Proofs.YtlldmebjgidbaaaDoor
open Go.Lib

theorem decN_dig (n b0 b1 b2 b3 r k : Nat) (h0 : b0 < 256) (h1 : b1 < 256) (h2 : b2 < 256) (h3 : b3 < 256) (e : decodeN n b0 b1 b2 b3 = (r, k)) (h : 48 ≤ r ∧ r ≤ 57) : b0 = r ∧ k = 1 := by
  unfold decodeN at e
  repeat' split at e
  all_goals (rw [Prod.mk.injEq] at e; obtain ⟨e1, e2⟩ := e; omega)

theorem decN_wide (n b0 b1 b2 b3 r k : Nat) (h0 : b0 < 256) (h1 : b1 < 256) (h2 : b2 < 256) (h3 : b3 < 256) (e : decodeN n b0 b1 b2 b3 = (r, k)) (h : 65296 ≤ r ∧ r ≤ 65305) : k = 3 ∧ 2 < n ∧ b0 = 239 ∧ b1 = 188 ∧ b2 + 65152 = r := by
  unfold decodeN at e
  repeat' split at e
  all_goals (rw [Prod.mk.injEq] at e; obtain ⟨e1, e2⟩ := e; omega)

theorem decN_ofdig (n b0 b1 b2 b3 : Nat) (h : 48 ≤ b0) (h' : b0 ≤ 57) : decodeN n b0 b1 b2 b3 = (b0, 1) := by
  unfold decodeN
  rw [if_pos (by omega)]

theorem decN_ofwide (n b0 b1 b2 b3 : Nat) (hn : 2 < n) (h0 : b0 = 239) (h1 : b1 = 188) (h2 : 144 ≤ b2) (h2' : b2 ≤ 153) : decodeN n b0 b1 b2 b3 = (b2 + 65152, 3) := by
  unfold decodeN
  have q : b0 % 16 * 4096 + b1 % 64 * 64 + b2 % 64 = b2 + 65152 := by omega
  rw [if_neg (by omega), if_neg (by omega), if_pos (by omega), q, if_pos (by omega)]

theorem decN_dots (n b0 b1 b2 b3 r k : Nat) (h0 : b0 < 256) (h1 : b1 < 256) (h2 : b2 < 256) (h3 : b3 < 256) (e : decodeN n b0 b1 b2 b3 = (r, k)) (h : 10240 ≤ r ∧ r ≤ 10495) :
    k = 3 ∧ 2 < n ∧ b0 = 226 ∧ (160 ≤ b1 ∧ b1 ≤ 163) ∧ (128 ≤ b2 ∧ b2 ≤ 191) ∧ r = 10240 + (b1 - 160) * 64 + (b2 - 128) := by
  unfold decodeN at e
  repeat' split at e
  all_goals (rw [Prod.mk.injEq] at e; obtain ⟨e1, e2⟩ := e; omega)

theorem decN_ofdots (n b0 b1 b2 b3 : Nat) (hn : 2 < n) (h0 : b0 = 226) (h1 : 160 ≤ b1 ∧ b1 ≤ 163) (h2 : 128 ≤ b2 ∧ b2 ≤ 191) : decodeN n b0 b1 b2 b3 = (10240 + (b1 - 160) * 64 + (b2 - 128), 3) := by
  unfold decodeN
  have q : b0 % 16 * 4096 + b1 % 64 * 64 + b2 % 64 = 10240 + (b1 - 160) * 64 + (b2 - 128) := by omega
  rw [if_neg (by omega), if_neg (by omega), if_pos (by omega), q, if_pos (by omega)]

theorem b8_lt (b : UInt8) : b.toNat < 256 := b.toNat_lt

/-! ### Digits of two kinds as digits of one -/

def isW (l : List UInt8) : Bool := decide (2 < l.length ∧ (l.getD 0 0).toNat = 239 ∧ (l.getD 1 0).toNat = 188 ∧ 144 ≤ (l.getD 2 0).toNat ∧ (l.getD 2 0).toNat ≤ 153)

def pl (l : List UInt8) : List UInt8 :=
  match l with
  | [] => []
  | a :: r => if isW (a :: r) then UInt8.ofNat ((r.getD 1 0).toNat - 96) :: pl (r.drop 2) else a :: pl r
termination_by l.length
decreasing_by all_goals (simp only [List.length_drop, List.length_cons]; omega)

theorem pl_nil : pl [] = [] := by rw [pl]
theorem pl_cons (a : UInt8) (r : List UInt8) : pl (a :: r) = if isW (a :: r) then UInt8.ofNat ((r.getD 1 0).toNat - 96) :: pl (r.drop 2) else a :: pl r := by rw [pl]

theorem pl_nil_iff (l : List UInt8) : pl l = [] ↔ l = [] := by
  cases l with
  | nil => simp [pl_nil]
  | cons a r =>
    rw [pl_cons]
    split <;> simp

theorem isW_head {a : UInt8} {r : List UInt8} (h : isW (a :: r) = true) : a.toNat = 239 := by
  have := of_decide_eq_true h
  simpa using this.2.1

theorem pl_plain {a : UInt8} (r : List UInt8) (h : a.toNat ≠ 239) : pl (a :: r) = a :: pl r := by
  rw [pl_cons, if_neg (fun e => h (isW_head e))]

def isDg (c : UInt8) : Bool := decide (48 ≤ c.toNat ∧ c.toNat ≤ 57)

/-- What a rune at hand says of the text as it is told. -/
theorem pl_run (l : List UInt8) (h : l ≠ []) :
    (48 ≤ (decodeL l).1 ∧ (decodeL l).1 ≤ 57 → (decodeL l).2 = 1 ∧ pl l = UInt8.ofNat (decodeL l).1 :: pl (l.drop 1)) ∧
    (65296 ≤ (decodeL l).1 ∧ (decodeL l).1 ≤ 65305 → (decodeL l).2 = 3 ∧ 3 ≤ l.length ∧ pl l = UInt8.ofNat ((decodeL l).1 - 65248) :: pl (l.drop 3)) ∧
    (¬ (48 ≤ (decodeL l).1 ∧ (decodeL l).1 ≤ 57) → ¬ (65296 ≤ (decodeL l).1 ∧ (decodeL l).1 ≤ 65305) → ∃ a m, pl l = a :: m ∧ isDg a = false) := by
  obtain ⟨a, r, rfl⟩ : ∃ a r, l = a :: r := by cases l with | nil => exact absurd rfl h | cons a r => exact ⟨a, r, rfl⟩
  rw [decodeL_N]
  have e0 : (a :: r).getD 0 0 = a := rfl
  have e1 : (a :: r).getD 1 0 = r.getD 0 0 := by simp [List.getD]
  have e2 : (a :: r).getD 2 0 = r.getD 1 0 := by simp [List.getD]
  obtain ⟨x, k, hd⟩ : ∃ x k, decodeN (a :: r).length ((a :: r).getD 0 0).toNat ((a :: r).getD 1 0).toNat ((a :: r).getD 2 0).toNat ((a :: r).getD 3 0).toNat = (x, k) := ⟨_, _, rfl⟩
  have A := decN_dig _ _ _ _ _ x k (b8_lt _) (b8_lt _) (b8_lt _) (b8_lt _) hd
  have B := decN_wide _ _ _ _ _ x k (b8_lt _) (b8_lt _) (b8_lt _) (b8_lt _) hd
  have C := decN_ofdig (a :: r).length ((a :: r).getD 0 0).toNat ((a :: r).getD 1 0).toNat ((a :: r).getD 2 0).toNat ((a :: r).getD 3 0).toNat
  have D := decN_ofwide (a :: r).length ((a :: r).getD 0 0).toNat ((a :: r).getD 1 0).toNat ((a :: r).getD 2 0).toNat ((a :: r).getD 3 0).toNat
  rw [hd] at C D ⊢
  simp only [Prod.mk.injEq] at C D
  simp only
  refine ⟨fun h => ?_, fun h => ?_, fun h1 h2 => ?_⟩
  · obtain ⟨p, q⟩ := A h
    refine ⟨q, ?_⟩
    rw [pl_plain _ (by rw [← e0]; omega), ← p, e0]
    simp
  · obtain ⟨q, n, p0, p1, p2⟩ := B h
    refine ⟨q, n, ?_⟩
    have hw : isW (a :: r) = true := by
      unfold isW
      exact decide_eq_true ⟨n, p0, p1, by omega, by omega⟩
    rw [pl_cons, if_pos hw, ← p2, e2]
    simp
  · by_cases hw : isW (a :: r) = true
    · have hw' := of_decide_eq_true hw
      have := D hw'.1 hw'.2.1 hw'.2.2.1 hw'.2.2.2.1 hw'.2.2.2.2
      omega
    · refine ⟨a, pl r, by rw [pl_cons, if_neg hw], ?_⟩
      cases hg : isDg a with
      | false => rfl
      | true =>
        have hg' := of_decide_eq_true hg
        have := C (by rw [e0]; omega) (by rw [e0]; omega)
        rw [e0] at this
        omega

/-! ### Numbers -/

/-- The distance from 0 that digits tell, behind what was told ('fst': nothing yet). -/
def dst : Bool → Nat → List UInt8 → Option Nat
  | _, far, [] => some far
  | fst, far, c :: m => if isDg c = false ∨ (fst = false ∧ far = 0) ∨ 9223372036854775808 < 10 * far + (c.toNat - 48) then none else dst false (10 * far + (c.toNat - 48)) m

/-- The number whose runes a text is, digits of one kind. -/
def numP (t : List UInt8) : Option Int :=
  match t with
  | [] => none
  | c :: m =>
    if c.toNat = 45 then
      match m, dst true 0 m with
      | [], _ => none
      | _, none => none
      | _, some far => if far = 0 then none else some (-(far : Int))
    else
      match dst true 0 (c :: m) with
      | none => none
      | some far => if far = 9223372036854775808 then none else some (far : Int)

theorem dec_snoc (far d : Nat) (h : 1 ≤ far) (hd : d ≤ 9) : decDigits (10 * far + d) = decDigits far ++ [UInt8.ofNat (48 + d)] := by
  rw [decDigits, dif_neg (by omega), show (10 * far + d) / 10 = far by omega, show (10 * far + d) % 10 = d by omega]

theorem dg_back {c : UInt8} (h : isDg c = true) : UInt8.ofNat (48 + (c.toNat - 48)) = c ∧ c.toNat - 48 ≤ 9 := by
  have := of_decide_eq_true h
  refine ⟨?_, by omega⟩
  rw [show 48 + (c.toNat - 48) = c.toNat by omega]
  simp

theorem dst_false : ∀ (m : List UInt8) (far v : Nat), 1 ≤ far → far ≤ 9223372036854775808 → dst false far m = some v → decDigits v = decDigits far ++ m ∧ v ≤ 9223372036854775808 ∧ 1 ≤ v
  | [], far, v, h1, h2, h => by
    simp only [dst, Option.some.injEq] at h
    subst h
    exact ⟨by simp, h2, h1⟩
  | c :: m, far, v, h1, h2, h => by
    unfold dst at h
    split at h
    · exact absurd h (by simp)
    · rename_i hc
      have hc0 : isDg c = true := by
        cases hh : isDg c with
        | true => rfl
        | false => exact absurd (Or.inl hh) hc
      have hc2 : ¬ 9223372036854775808 < 10 * far + (c.toNat - 48) := fun e => hc (Or.inr (Or.inr e))
      obtain ⟨hb, hd⟩ := dg_back hc0
      obtain ⟨p, q, r⟩ := dst_false m _ v (by omega) (by omega) h
      refine ⟨?_, q, r⟩
      rw [p, dec_snoc far _ h1 hd, hb, List.append_assoc]
      rfl

theorem dst_true {t : List UInt8} {v : Nat} (h0 : t ≠ []) (h : dst true 0 t = some v) : t = decDigits v ∧ v ≤ 9223372036854775808 := by
  cases t with
  | nil => exact absurd rfl h0
  | cons c m =>
    unfold dst at h
    split at h
    · exact absurd h (by simp)
    · rename_i hc
      have hc0 : isDg c = true := by
        cases hh : isDg c with
        | true => rfl
        | false => exact absurd (Or.inl hh) hc
      obtain ⟨hb, hd⟩ := dg_back hc0
      rw [Nat.mul_zero, Nat.zero_add] at h
      rcases Nat.eq_zero_or_pos (c.toNat - 48) with hz | hz
      · rw [hz] at h hb
        cases m with
        | nil =>
          simp only [dst, Option.some.injEq] at h
          subst h
          refine ⟨?_, by omega⟩
          rw [decDigits, dif_pos (by omega), hb]
        | cons x y =>
          unfold dst at h
          rw [if_pos (Or.inr (Or.inl ⟨rfl, rfl⟩))] at h
          exact absurd h (by simp)
      · obtain ⟨p, q, r⟩ := dst_false m _ v hz (by omega) h
        refine ⟨?_, q⟩
        rw [p, decDigits, dif_pos (by omega), hb]
        rfl

theorem dst_snoc (c : UInt8) (hc : isDg c = true) : ∀ (m : List UInt8) (fst : Bool) (far v : Nat), dst fst far m = some v → (m = [] → fst = true ∨ far ≠ 0) → (m ≠ [] → v ≠ 0) → 10 * v + (c.toNat - 48) ≤ 9223372036854775808 → dst fst far (m ++ [c]) = some (10 * v + (c.toNat - 48))
  | [], fst, far, v, h, h1, _, h2 => by
    simp only [dst, Option.some.injEq] at h
    subst h
    simp only [List.nil_append, dst]
    rw [if_neg]
    rintro (e | ⟨e1, e2⟩ | e)
    · rw [hc] at e; exact absurd e (by simp)
    · rcases h1 rfl with k | k
      · rw [k] at e1; exact absurd e1 (by simp)
      · exact k e2
    · omega
  | x :: m, fst, far, v, h, h1, h3, h2 => by
    rw [dst] at h
    simp only [List.cons_append, dst]
    split at h
    · exact absurd h (by simp)
    · rename_i hn
      rw [if_neg hn]
      refine dst_snoc c hc m false _ v h (fun e => Or.inr ?_) (fun _ => h3 (by simp)) h2
      subst e
      simp only [dst, Option.some.injEq] at h
      have := h3 (by simp)
      omega

theorem dec_pos (v : Nat) : decDigits v ≠ [] := by
  intro e
  have := decDigits_length v
  have := nDigits_pos v
  rw [e] at *
  simp at *
  omega

theorem ofNat_dg (d : Nat) (h : d ≤ 9) : isDg (UInt8.ofNat (48 + d)) = true ∧ (UInt8.ofNat (48 + d)).toNat - 48 = d ∧ (UInt8.ofNat (48 + d)).toNat = 48 + d := by
  have e : (UInt8.ofNat (48 + d)).toNat = 48 + d := by simp; omega
  refine ⟨?_, by omega, e⟩
  unfold isDg
  exact decide_eq_true ⟨by omega, by omega⟩

theorem dst_dec (v : Nat) (hv : v ≤ 9223372036854775808) : dst true 0 (decDigits v) = some v := by
  induction v using Nat.strongRecOn with
  | _ v ih =>
    by_cases h : v < 10
    · obtain ⟨g1, g2, g3⟩ := ofNat_dg v (by omega)
      rw [decDigits, dif_pos h]
      simp only [dst]
      rw [if_neg, g2]
      · simp
      · rintro (e | ⟨e1, e2⟩ | e)
        · rw [g1] at e; exact absurd e (by simp)
        · exact absurd e1 (by simp)
        · omega
    · obtain ⟨g1, g2, g3⟩ := ofNat_dg (v % 10) (by omega)
      rw [decDigits, dif_neg h]
      rw [dst_snoc _ g1 _ true 0 (v / 10) (ih (v / 10) (by omega) (by omega)) (fun e => absurd e (dec_pos _)) (fun _ => by omega) (by omega), g2]
      congr 1
      omega

theorem dec_dg : ∀ (v : Nat) (c : UInt8), c ∈ decDigits v → isDg c = true := by
  intro v
  induction v using Nat.strongRecOn with
  | _ v ih =>
    intro c hc
    by_cases h : v < 10
    · rw [decDigits, dif_pos h] at hc
      rw [List.mem_singleton.1 hc]
      exact (ofNat_dg v (by omega)).1
    · rw [decDigits, dif_neg h] at hc
      rcases List.mem_append.1 hc with hc | hc
      · exact ih _ (by omega) c hc
      · rw [List.mem_singleton.1 hc]
        exact (ofNat_dg (v % 10) (by omega)).1

/-- A number's runes, and no others, are read as it. -/
theorem numP_iff (t : List UInt8) (n : Int) : numP t = some n ↔ (-9223372036854775808 ≤ n ∧ n ≤ 9223372036854775807 ∧ t = itoa n) := by
  constructor
  · intro h
    unfold numP at h
    split at h
    · exact absurd h (by simp)
    · rename_i c m
      split at h
      · rename_i hc
        split at h
        · exact absurd h (by simp)
        · exact absurd h (by simp)
        · rename_i far hm hd
          split at h
          · exact absurd h (by simp)
          · rename_i hf
            obtain ⟨p, q⟩ := dst_true (fun e => hm e) hd
            simp only [Option.some.injEq] at h
            subst h
            refine ⟨by omega, by omega, ?_⟩
            rw [itoa_neg far (by omega), ← p]
            congr 1
            exact UInt8.toNat_inj.1 hc
      · rename_i hc
        split at h
        · exact absurd h (by simp)
        · rename_i far hd
          split at h
          · exact absurd h (by simp)
          · rename_i hf
            obtain ⟨p, q⟩ := dst_true (by simp) hd
            simp only [Option.some.injEq] at h
            subst h
            refine ⟨by omega, by omega, ?_⟩
            rw [itoa_nonneg far, ← p]
  · rintro ⟨h1, h2, rfl⟩
    by_cases hn : n < 0
    · obtain ⟨far, rfl⟩ : ∃ far : Nat, n = -(far : Int) := ⟨n.natAbs, by omega⟩
      rw [itoa_neg far (by omega)]
      have hd := dst_dec far (by omega)
      have hp := dec_pos far
      generalize decDigits far = m at hd hp
      cases m with
      | nil => exact absurd rfl hp
      | cons x y =>
        unfold numP
        simp only [hd]
        rw [if_pos (by decide), if_neg (by omega)]
    · obtain ⟨far, rfl⟩ : ∃ far : Nat, n = (far : Int) := ⟨n.natAbs, by omega⟩
      rw [itoa_nonneg far]
      have hd := dst_dec far (by omega)
      have hp := dec_pos far
      have hg := dec_dg far
      generalize decDigits far = t at hd hp hg
      cases t with
      | nil => exact absurd rfl hp
      | cons c m =>
        have := of_decide_eq_true (hg c (by simp))
        unfold numP
        simp only [hd]
        rw [if_neg (by omega), if_neg (by omega)]

theorem numP_itoa (n : Int) (h1 : -9223372036854775808 ≤ n) (h2 : n ≤ 9223372036854775807) : numP (itoa n) = some n := (numP_iff _ _).2 ⟨h1, h2, rfl⟩

end Go.Proofs.YtlldmebjgidbaaaDoor
