/- TreeOrder of layer 8: its keys, without memory. -/
import Derived.Test.YtnmjnaajpgdlgaaOm8
import Derived.Test.YtnmjnaajpgdlgaaRm8
set_option linter.unusedVariables false
namespace Go.Proofs.Ytnmjnaajpgdlgaa
open Go.RowKit

def keyO (st a i : Nat) : Nat := (st + a * i) % 41

theorem no_zero (a d : Nat) (h1 : 1 ≤ a) (h2 : a ≤ 40) (h3 : 1 ≤ d) (h4 : d ≤ 40) : (a * d) % 41 ≠ 0 := by
  have h : (List.range 41).all (fun a => (List.range 41).all fun d => decide (a = 0) || decide (d = 0) || decide ((a * d) % 41 ≠ 0)) = true := by decide +kernel
  have h5 := List.all_eq_true.1 (List.all_eq_true.1 h a (List.mem_range.2 (by omega))) d (List.mem_range.2 (by omega))
  simp only [Bool.or_eq_true, decide_eq_true_eq] at h5
  rcases h5 with (h5 | h5) | h5
  · omega
  · omega
  · exact h5
theorem all_hit (b r : Nat) (h1 : 1 ≤ b) (h2 : b ≤ 40) (h3 : r ≤ 40) : ∃ t, t < 41 ∧ (b * t) % 41 = r := by
  have h : (List.range 41).all (fun b => (List.range 41).all fun r => decide (b = 0) || (List.range 41).any fun t => decide ((b * t) % 41 = r)) = true := by decide +kernel
  have h5 := List.all_eq_true.1 (List.all_eq_true.1 h b (List.mem_range.2 (by omega))) r (List.mem_range.2 (by omega))
  rw [Bool.or_eq_true, decide_eq_true_eq] at h5
  rcases h5 with h5 | h5
  · omega
  · obtain ⟨t, ht, e⟩ := List.any_eq_true.1 h5
    exact ⟨t, List.mem_range.1 ht, of_decide_eq_true e⟩
theorem key_ne (st a t i : Nat) (h1 : 1 ≤ a) (h2 : a ≤ 40) (ht : t < i) (hi : i ≤ 40) : keyO st a t ≠ keyO st a i := by
  unfold keyO
  have h := no_zero a (i - t) h1 h2 (by omega) (by omega)
  have e : a * i = a * t + a * (i - t) := by rw [← Nat.mul_add]; congr 1; omega
  rw [e]
  generalize a * t = x at *
  generalize a * (i - t) = y at *
  omega

/-- Behind i keys. -/
structure OrI (st a i : Nat) (qs : Pairs) : Prop where
  len : qs.length = i
  val : ∀ p ∈ qs, p.2 = 2 * p.1 ∧ p.1 ≤ 40 ∧ ∃ t, t < i ∧ p.1 = keyO st a t

theorem OrI.zero (st a : Nat) : OrI st a 0 [] := ⟨rfl, fun p h => by cases h⟩
theorem OrI.next {st a i : Nat} {qs : Pairs} (h : OrI st a i qs) (h1 : 1 ≤ a) (h2 : a ≤ 40) (hi : i ≤ 40) : OrI st a (i + 1) (chg [(keyO st a i, 2 * keyO st a i)] (keyO st a i) qs) := by
  have hno : ∀ w, (keyO st a i, w) ∉ qs := fun w hw => by
    obtain ⟨_, _, t, ht, e⟩ := h.val _ hw
    exact key_ne st a t i h1 h2 ht hi e.symm
  refine ⟨by rw [chg_length hno, h.len], fun p hp => ?_⟩
  rcases mem_chg hp with hp | hp
  · obtain ⟨v1, v2, t, ht, e⟩ := h.val p hp
    exact ⟨v1, v2, t, by omega, e⟩
  · rw [List.mem_singleton.1 hp]
    exact ⟨rfl, by show keyO st a i ≤ 40; unfold keyO; omega, i, by omega, rfl⟩

/-- Behind i keys that were dropped. -/
def drO (b : Nat) (Q : Pairs) (i : Nat) : Pairs := Q.filter fun p => (List.range i).all fun t => decide (p.1 ≠ (b * t) % 41)
theorem drO_zero (b : Nat) (Q : Pairs) : drO b Q 0 = Q := by simp [drO]
theorem drO_succ {b i : Nat} {Q : Pairs} (h : Srt (drO b Q i)) : chg [] ((b * i) % 41) (drO b Q i) = drO b Q (i + 1) := by
  rw [chg_drop _ h]
  unfold drO
  rw [List.filter_filter]
  refine List.filter_congr fun p _ => ?_
  rw [List.range_succ, List.all_append, Bool.and_comm]
  simp
theorem drO_mem {b i : Nat} {Q : Pairs} (h1 : 1 ≤ b) (h2 : b ≤ 40) (hi : i ≤ 40) : (∃ v, ((b * i) % 41, v) ∈ drO b Q i) ↔ Q.any (fun p => p.1 == (b * i) % 41) = true := by
  rw [List.any_eq_true]
  constructor
  · rintro ⟨v, hv⟩
    exact ⟨_, (List.mem_filter.1 hv).1, by simp⟩
  · rintro ⟨⟨x, v⟩, h, e⟩
    simp at e
    subst e
    refine ⟨v, List.mem_filter.2 ⟨h, ?_⟩⟩
    rw [List.all_eq_true]
    intro t ht
    have := key_ne 0 b t i h1 h2 (List.mem_range.1 ht) hi
    unfold keyO at this
    simp only [Nat.zero_add] at this
    exact decide_eq_true fun e => this e.symm
theorem drO_end {b st a k : Nat} {Q : Pairs} (h1 : 1 ≤ b) (h2 : b ≤ 40) (h : OrI st a k Q) : drO b Q 41 = [] := by
  unfold drO
  rw [List.filter_eq_nil_iff]
  intro p hp
  obtain ⟨_, h3, _⟩ := h.val p hp
  obtain ⟨t, ht, e⟩ := all_hit b p.1 h1 h2 h3
  intro hall
  have := of_decide_eq_true (List.all_eq_true.1 hall t (List.mem_range.2 ht))
  exact this e.symm
theorem rng_orI {st a k : Nat} {Q : Pairs} (h : OrI st a k Q) : rng 0 100 Q = Q := rng_all fun p hp => by
  obtain ⟨_, h3, _⟩ := h.val p hp
  omega
theorem any_succ (Q : Pairs) (k j : Nat) (h : j < Q.length) : (Q.take (j + 1)).any (fun p => p.1 == k) = ((Q.take j).any (fun p => p.1 == k) || (keyAt Q j == k)) := by
  rw [List.take_succ_eq_append_getElem h, List.any_append, keyAt_get h]
  simp

end Go.Proofs.Ytnmjnaajpgdlgaa
