import Derived.Test.YtbnpabpkaebojaaR5
import Derived.Test.YtbnpabpkaebojaaRm8T
/- TreeBuilds of layer 8: how many nodes a row of pairs needs; what Build leaves, without memory. -/
set_option linter.unusedVariables false
namespace Go.Proofs.Ytbnpabpkaebojaa
open Go.RowKit

/-- What a slice of pairs that came in is. -/
def IsPairs8 (W : World) (a : Option Addr) (len cap : Nat) : Prop := ∃ ps : Pairs, ps.length = len ∧ IsPs W a ps ∧ len ≤ cap ∧ cap ≤ maxLen

theorem needM_succ (f n : Nat) : needM (f + 1) n = if n = 0 then 0 else partsOf 15 n + (if n ≤ 15 then 0 else needM f (partsOf 15 n)) := rfl
theorem needM_eq : ∀ (n f : Nat), n ≤ f → needM f n = needM n n := by
  intro n
  induction n using Nat.strongRecOn with
  | ind n ih =>
    intro f hf
    rcases Nat.eq_zero_or_pos n with rfl | h0
    · cases f <;> simp [needM]
    · obtain ⟨f, rfl⟩ : ∃ f', f = f' + 1 := ⟨f - 1, by omega⟩
      obtain ⟨m, hm⟩ : ∃ m, n = m + 1 := ⟨n - 1, by omega⟩
      have e : needM n n = needM (m + 1) n := by rw [← hm]
      rw [e, needM_succ, needM_succ, if_neg (by omega : ¬ n = 0), if_neg (by omega : ¬ n = 0)]
      by_cases h15 : n ≤ 15
      · rw [if_pos h15, if_pos h15]
      · rw [if_neg h15, if_neg h15]
        have hp : partsOf 15 n ≤ m := by unfold partsOf; omega
        rw [ih (partsOf 15 n) (by omega) f (by omega), ih (partsOf 15 n) (by omega) m hp]
theorem need_small {n : Nat} (h0 : 0 < n) (h : n ≤ 15) : needM n n = 1 := by
  obtain ⟨m, rfl⟩ : ∃ m, n = m + 1 := ⟨n - 1, by omega⟩
  unfold needM
  rw [if_neg (by omega), if_pos h]
  unfold partsOf
  omega
theorem need_big {n : Nat} (h : ¬ n ≤ 15) : needM n n = partsOf 15 n + needM (partsOf 15 n) (partsOf 15 n) := by
  obtain ⟨m, rfl⟩ : ∃ m, n = m + 1 := ⟨n - 1, by omega⟩
  rw [needM_succ, if_neg (by omega : ¬ m + 1 = 0), if_neg h, needM_eq (partsOf 15 (m + 1)) m (by unfold partsOf; omega)]
theorem need_le (n : Nat) (h : n ≤ 300) : needM n n ≤ 30 := by
  rcases Nat.eq_zero_or_pos n with rfl | h0
  · simp [needM]
  · by_cases h15 : n ≤ 15
    · rw [need_small h0 h15]; omega
    · rw [need_big h15]
      have h1 : partsOf 15 n ≤ 20 := by unfold partsOf; omega
      have h2 : 0 < partsOf 15 n := by unfold partsOf; omega
      by_cases h3 : partsOf 15 n ≤ 15
      · rw [need_small h2 h3]; omega
      · rw [need_big h3]
        have h4 : partsOf 15 (partsOf 15 n) ≤ 2 := by have : partsOf 15 (partsOf 15 n) = (partsOf 15 n + 15 - 1) / 15 := rfl; omega
        have h5 : 0 < partsOf 15 (partsOf 15 n) := by have : partsOf 15 (partsOf 15 n) = (partsOf 15 n + 15 - 1) / 15 := rfl; omega
        rw [need_small h5 (by omega)]
        omega

/-- What Build leaves of rising pairs. -/
theorem build_ok {c : Nat} (hc : c ≤ 511) {l : Pairs} (hl : l.length ≤ 300) (hs : Srt l) (hk : ∀ q ∈ l, q.1 ≤ topH) {o : Option Nat} {N' : List Nd} (e : pileM c l.length 0 l [] = (o, N')) :
    (c < needM l.length l.length → o = none) ∧ (needM l.length l.length ≤ c → ∃ r lv g, o = some r ∧ N'.length = needM l.length l.length ∧ TreeG N' r lv l g ∧ g.Nodup) := by
  obtain ⟨h1, h2⟩ := pile_need l.length 0 l [] (Nat.le_refl _) o N' e (by simp)
  simp only [List.length_nil, Nat.zero_add] at h1 h2
  refine ⟨h1, fun h => ?_⟩
  obtain ⟨h3, h4⟩ := h2 h
  obtain ⟨r, rfl⟩ := Option.isSome_iff_exists.1 h3
  rcases Nat.eq_zero_or_pos l.length with h0 | h0
  · obtain rfl : l = [] := List.length_eq_zero_iff.1 h0
    simp only [List.length_nil, pileM] at e
    obtain ⟨e1, rfl⟩ := Prod.mk.inj e
    obtain rfl := Option.some.inj e1
    exact ⟨0, 0, [], rfl, h4, .inl ⟨rfl, rfl, rfl, rfl⟩, .nil⟩
  · obtain ⟨M, rfl, m2, m3⟩ := pile_ok hc l.length 0 l l [] [] 2 ⟨rfl, rfl⟩ (by simp) h0 (.inl rfl) (Nat.le_refl _) (by omega) (by omega) hs hk (some r) N' e
    obtain ⟨lv', g', t1, t2, t3, _⟩ := m3 r rfl
    exact ⟨r, lv', g', rfl, h4, t2, t3.nodup .nil fun x hx => by cases hx⟩

end Go.Proofs.Ytbnpabpkaebojaa
