import Derived.Test.YtdbanlifneomgaaGe8L
/- What Range answers: the mathematics. -/
set_option linter.unusedVariables false
namespace Go.Proofs.Ytdbanlifneomgaa
open Go.RowKit

/-- Pairs with keys from low to high. -/
def rng (low high : Nat) (qs : Pairs) : Pairs := qs.filter fun p => decide (low ≤ p.1) && decide (p.1 ≤ high)
theorem rng_append (low high : Nat) (a b : Pairs) : rng low high (a ++ b) = rng low high a ++ rng low high b := by simp [rng]
theorem rng_below {low high : Nat} {qs : Pairs} (h : ∀ p ∈ qs, p.1 < low) : rng low high qs = [] := by
  unfold rng; rw [List.filter_eq_nil_iff]; intro p hp; have := h p hp; simp; omega
theorem rng_above {low high : Nat} {qs : Pairs} (h : ∀ p ∈ qs, high < p.1) : rng low high qs = [] := by
  unfold rng; rw [List.filter_eq_nil_iff]; intro p hp; have := h p hp; simp; omega
theorem rng_all {low high : Nat} {qs : Pairs} (h : ∀ p ∈ qs, low ≤ p.1 ∧ p.1 ≤ high) : rng low high qs = qs := by
  unfold rng; rw [List.filter_eq_self]; intro p hp; have := h p hp; simp; omega

theorem mem_take_key {qs : Pairs} {j : Nat} {p : Nat × Nat} (h : p ∈ qs.take j) : ∃ i, i < j ∧ i < qs.length ∧ keyAt qs i = p.1 := by
  obtain ⟨i, hi, e⟩ := List.getElem_of_mem h
  rw [List.length_take] at hi
  rw [List.getElem_take] at e
  exact ⟨i, by omega, by omega, by rw [keyAt_get (by omega), e]⟩
theorem mem_drop_key {qs : Pairs} {j : Nat} {p : Nat × Nat} (h : p ∈ qs.drop j) : ∃ i, j ≤ i ∧ i < qs.length ∧ keyAt qs i = p.1 := by
  obtain ⟨i, hi, e⟩ := List.getElem_of_mem h
  rw [List.length_drop] at hi
  rw [List.getElem_drop] at e
  exact ⟨j + i, by omega, by omega, by rw [keyAt_get (by omega), e]⟩

theorem below_sides {qs : Pairs} (hs : Srt qs) (k : Nat) : (∀ i, i < belowK qs k → keyAt qs i < k) ∧ (∀ i, belowK qs k ≤ i → i < qs.length → k ≤ keyAt qs i) := by
  have hb : belowK qs k ≤ qs.length := List.countP_le_length
  have e := filter_lt_take hs k
  constructor
  · intro i hi
    have : qs[i] ∈ qs.take (belowK qs k) := by
      rw [List.mem_take_iff_getElem]
      exact ⟨i, by omega, rfl⟩
    rw [← e] at this
    have := (List.mem_filter.1 this).2
    rw [keyAt_get (by omega)]
    simpa using this
  · intro i h1 h2
    rcases Nat.lt_or_ge (keyAt qs i) k with h | h
    · exfalso
      have hm : qs[i] ∈ qs.filter fun p => decide (p.1 < k) := List.mem_filter.2 ⟨List.getElem_mem h2, by rw [keyAt_get h2] at h; simpa using h⟩
      rw [e] at hm
      obtain ⟨j, hj1, hj2, hj3⟩ := mem_take_key hm
      have := rises_lt ((rises_srt _).2 hs) (show j < i by omega) h2
      rw [keyAt_get h2] at this
      omega
    · exact h

/-- In a leaf. -/
theorem rng_leaf {qs : Pairs} (hs : Srt qs) (low high j : Nat) (h1 : belowK qs low ≤ j) (h2 : j ≤ qs.length) (h3 : ∀ i, belowK qs low ≤ i → i < j → keyAt qs i ≤ high) (h4 : j < qs.length → high < keyAt qs j) : rng low high qs = (qs.take j).drop (belowK qs low) := by
  obtain ⟨b1, b2⟩ := below_sides hs low
  have e : qs = (qs.take j).take (belowK qs low) ++ (qs.take j).drop (belowK qs low) ++ qs.drop j := by rw [List.take_append_drop, List.take_append_drop]
  have r1 : rng low high ((qs.take j).take (belowK qs low)) = [] := rng_below fun p hp => by
    rw [List.take_take] at hp
    obtain ⟨i, i1, i2, i3⟩ := mem_take_key hp
    have := b1 i (by omega)
    omega
  have r3 : rng low high (qs.drop j) = [] := rng_above fun p hp => by
    obtain ⟨i, i1, i2, i3⟩ := mem_drop_key hp
    have := h4 (by omega)
    rcases Nat.lt_or_ge j i with h | h
    · have := rises_lt ((rises_srt _).2 hs) h i2; omega
    · obtain rfl : i = j := by omega
      omega
  have r2 : rng low high ((qs.take j).drop (belowK qs low)) = (qs.take j).drop (belowK qs low) := rng_all fun p hp => by
    obtain ⟨i, i1, i2, i3⟩ := mem_drop_key hp
    rw [List.length_take] at i2
    have i3' : keyAt qs i = p.1 := by
      rw [← i3, keyAt_get (by omega), keyAt_get (by rw [List.length_take]; omega), List.getElem_take]
    have := b2 i i1 (by omega)
    have := h3 i i1 (by omega)
    omega
  conv => lhs; rw [e]
  rw [rng_append, rng_append, r1, r2, r3]
  simp

/-- One of a node's kids, by how its pairs lie. -/
theorem SndL.kidAt {N : List Nd} {root : Bool} {lv : Int} {lo hi l p : Nat} {ps qs : Pairs} {g : List Nat} (h : SndL N root lv lo hi (l + 1) p ps qs g) (hl : l + 1 ≤ 7) (hN : N.length ≤ 511) (i : Nat) (hi' : i < ps.length) {q1 q2 q3 : Pairs} {g2 g3 : List Nat} (e : qs = q1 ++ q2 ++ q3)
    (s1 : Snd N l (valAt ps i) q2 g2) (s2 : 0 < q2.length) (s3 : keyAt q2 0 = keyAt ps i) (k3 : Kids (Snd N l) (ps.drop (i + 1)) q3 g3) :
    ∃ ps' g', g2 = valAt ps i :: g' ∧ SndL N false (l : Int) (keyAt ps i) (highOf ps i hi) l (valAt ps i) ps' q2 g' ∧ ps'.length ≤ 15 := by
  obtain ⟨ps', g', n1, n2, n3, n4, rfl⟩ := snd_iff.1 s1
  have hs : Srt (q1 ++ q2 ++ q3) := by rw [← e]; exact h.srt
  obtain ⟨t1, t2, t3, t4, t5, t6⟩ := srt_le hs
  have hh : ∀ q ∈ q2, q.1 ≤ highOf ps i hi := by
    intro q hq
    unfold highOf
    split
    · rename_i hlt
      obtain ⟨r1, r2⟩ := k3.pos (by rw [List.length_drop]; omega)
      rw [keyAt_drop] at r2
      obtain ⟨v, hv⟩ := keyAt_mem r1
      have := t2 q hq _ hv
      rw [r2] at this
      omega
    · exact h.high q (by rw [e]; simp [hq])
  obtain ⟨b1, b2⟩ := body_pos n4 n2
  refine ⟨ps', g', rfl, ⟨n1, ⟨body_good n4 t5 n2 n3 (by omega) hN, n2, rfl, ?_, ?_⟩, n4, t5, hh⟩, n3⟩
  · rw [← b2]; exact s3
  · have hm : ps'.length - 1 < ps'.length := by omega
    obtain ⟨v, hv⟩ := keyAt_mem hm
    obtain ⟨q, hq, e⟩ := body_key n4 _ hv
    have := hh q hq
    rw [e] at this
    exact this

/-- Where the kids of a key begin and end. -/
theorem rng_before {S : Nat → Pairs → List Nat → Prop} {ps qs qa qb : Pairs} {ga gb : List Nat} {low high : Nat} (hs : Srt qs) (h0 : 0 < ps.length) (hps : Srt ps) (e : qs = qa ++ qb) (ha : Kids S (ps.take (kidOf ps low)) qa ga) (hb : Kids S (ps.drop (kidOf ps low)) qb gb) : rng low high qa = [] := by
  obtain ⟨sd1, _⟩ := kid_sides hps low h0
  rcases Nat.eq_zero_or_pos (kidOf ps low) with e0 | e0
  · rw [e0, List.take_zero] at ha
    obtain ⟨rfl, _⟩ := ha
    rfl
  · have hlt := kidOf_lt ps low h0
    obtain ⟨r1, r2⟩ := hb.pos (by rw [List.length_drop]; omega)
    rw [keyAt_drop] at r2
    refine rng_below fun p hp => ?_
    rw [e] at hs
    obtain ⟨v, hv⟩ := keyAt_mem r1
    have := (List.pairwise_append.1 hs).2.2 p hp _ hv
    have := sd1 e0
    simp only [r2] at *
    omega
theorem rng_behind {S : Nat → Pairs → List Nat → Prop} {ps qs qa qb : Pairs} {ga gb : List Nat} {low high i : Nat} (hs : Srt qs) (e : qs = qa ++ qb) (hb : Kids S (ps.drop i) qb gb) (hk : i < ps.length → high < keyAt ps i) : rng low high qb = [] := by
  rcases Nat.lt_or_ge i ps.length with h | h
  · obtain ⟨r1, r2⟩ := hb.pos (by rw [List.length_drop]; omega)
    rw [keyAt_drop] at r2
    refine rng_above fun p hp => ?_
    rw [e] at hs
    have := srt_first (List.pairwise_append.1 hs).2.1 p hp
    have := hk h
    omega
  · have : ps.drop i = [] := List.drop_eq_nil_iff.2 h
    rw [this] at hb
    obtain ⟨rfl, _⟩ := hb
    rfl

end Go.Proofs.Ytdbanlifneomgaa
