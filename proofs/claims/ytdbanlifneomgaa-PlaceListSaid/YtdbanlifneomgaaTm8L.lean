import Derived.Test.YtdbanlifneomgaaDs8L
/- Trees: the mathematics of layer 8 without memory. Of no program. -/
set_option linter.unusedVariables false
namespace Go.Proofs.Ytdbanlifneomgaa
open Go.RowKit

/-- Pairs rise. -/
def Srt (ps : Pairs) : Prop := ps.Pairwise fun a b => a.1 < b.1
theorem rises_srt (ps : Pairs) : rises ps = true ↔ Srt ps := by
  constructor
  · intro h
    unfold Srt
    rw [List.pairwise_iff_getElem]
    intro i j hi hj hij
    have := rises_lt h hij hj
    rwa [keyAt_get hi, keyAt_get hj] at this
  · intro h
    rw [rises_iff]
    intro i hi
    rw [keyAt_get (by omega), keyAt_get hi]
    exact (List.pairwise_iff_getElem.1 h) i (i + 1) (by omega) hi (by omega)

/-- What a row becomes if these pairs stand at a key. -/
def chg (xs : Pairs) (k : Nat) (qs : Pairs) : Pairs := (qs.filter fun p => decide (p.1 < k)) ++ xs ++ qs.filter fun p => decide (k < p.1)

theorem filter_lt_take {qs : Pairs} (h : Srt qs) (k : Nat) : (qs.filter fun p => decide (p.1 < k)) = qs.take (belowK qs k) := by
  induction qs with
  | nil => rfl
  | cons p r ih =>
    obtain ⟨h1, h2⟩ := List.pairwise_cons.1 h
    unfold belowK at ih ⊢
    rw [List.filter_cons, List.countP_cons]
    by_cases hp : p.1 < k
    · simp [hp, ih h2]
    · have h3 : (r.filter fun p => decide (p.1 < k)) = [] := by
        rw [List.filter_eq_nil_iff]
        intro q hq
        have := h1 q hq
        simp; omega
      have h4 : (r.countP fun p => decide (p.1 < k)) = 0 := by
        rw [List.countP_eq_zero]
        intro q hq
        have := h1 q hq
        simp; omega
      simp [hp, h3, h4]

theorem filter_gt_drop {qs : Pairs} (h : Srt qs) (k : Nat) : (qs.filter fun p => decide (k < p.1)) = qs.drop (toOf qs k) := by
  induction qs with
  | nil => simp [toOf, belowK, hasK]
  | cons p r ih =>
    obtain ⟨h1, h2⟩ := List.pairwise_cons.1 h
    rw [List.filter_cons]
    by_cases hp : p.1 < k
    · have e : toOf (p :: r) k = toOf r k + 1 := by
        have a : hasK (p :: r) k = hasK r k := by
          have : (p.1 == k) = false := by rw [beq_eq_false_iff_ne]; omega
          simp [hasK, this]
        have b : belowK (p :: r) k = belowK r k + 1 := by simp [belowK, hp]
        unfold toOf
        rw [a, b]
        split <;> rfl
      rw [e, if_neg (by simp; omega), ih h2]; rfl
    · have h4 : belowK (p :: r) k = 0 := by
        unfold belowK
        rw [List.countP_eq_zero]
        intro q hq
        rcases List.mem_cons.1 hq with rfl | hq
        · simpa using hp
        · have := h1 q hq
          simp; omega
      have h5 : (r.filter fun p => decide (k < p.1)) = r := by
        rw [List.filter_eq_self]
        intro q hq
        have := h1 q hq
        simp; omega
      unfold toOf
      rw [h4, h5]
      by_cases hk : p.1 = k
      · have : hasK (p :: r) k = true := by simp [hasK, hk]
        simp [this, hk]
      · have : hasK (p :: r) k = false := by
          have a : (p.1 == k) = false := by rw [beq_eq_false_iff_ne]; exact hk
          have b : hasK r k = false := by
            unfold hasK
            rw [List.any_eq_false]
            intro q hq
            have := h1 q hq
            simp; omega
          unfold hasK at b ⊢
          simp [a, b]
        simp [this]
        omega

theorem chg_leaf {qs : Pairs} (h : Srt qs) (xs : Pairs) (k : Nat) : qs.take (belowK qs k) ++ xs ++ qs.drop (toOf qs k) = chg xs k qs := by
  unfold chg
  rw [filter_lt_take h, filter_gt_drop h]

theorem chg_mid {a b c xs : Pairs} {k : Nat} (ha : ∀ p ∈ a, p.1 < k) (hc : ∀ p ∈ c, k < p.1) : chg xs k (a ++ b ++ c) = a ++ chg xs k b ++ c := by
  have a1 : (a.filter fun p => decide (p.1 < k)) = a := by rw [List.filter_eq_self]; intro p hp; simpa using ha p hp
  have a2 : (a.filter fun p => decide (k < p.1)) = [] := by rw [List.filter_eq_nil_iff]; intro p hp; have := ha p hp; simp; omega
  have c1 : (c.filter fun p => decide (k < p.1)) = c := by rw [List.filter_eq_self]; intro p hp; simpa using hc p hp
  have c2 : (c.filter fun p => decide (p.1 < k)) = [] := by rw [List.filter_eq_nil_iff]; intro p hp; have := hc p hp; simp; omega
  unfold chg
  simp only [List.filter_append, a1, a2, c1, c2, List.nil_append, List.append_nil, List.append_assoc]

theorem srt_chg {qs xs : Pairs} {k : Nat} (h : Srt qs) (hx : Srt xs) (hk : ∀ p ∈ xs, p.1 = k) : Srt (chg xs k qs) := by
  unfold chg Srt
  rw [List.pairwise_append, List.pairwise_append]
  refine ⟨⟨h.filter _, hx, ?_⟩, h.filter _, ?_⟩
  · intro p hp q hq
    have := (List.mem_filter.1 hp).2
    rw [hk q hq]
    simpa using this
  · intro p hp q hq
    have h2 := (List.mem_filter.1 hq).2
    rcases List.mem_append.1 hp with hp | hp
    · have := (List.mem_filter.1 hp).2
      simp at this h2
      omega
    · rw [hk p hp]
      simpa using h2

theorem mem_chg {qs xs : Pairs} {k : Nat} {p : Nat × Nat} (h : p ∈ chg xs k qs) : p ∈ qs ∨ p ∈ xs := by
  unfold chg at h
  simp only [List.mem_append, List.mem_filter] at h
  rcases h with (h | h) | h
  · exact .inl h.1
  · exact .inr h
  · exact .inl h.1

/-- Pairs that lead to subtrees: what these have, in order. -/
def Kids (S : Nat → Pairs → List Nat → Prop) : Pairs → Pairs → List Nat → Prop
  | [], qs, pg => qs = [] ∧ pg = []
  | kv :: r, qs, pg => ∃ q1 q2 g1 g2, qs = q1 ++ q2 ∧ pg = g1 ++ g2 ∧ S kv.2 q1 g1 ∧ 0 < q1.length ∧ keyAt q1 0 = kv.1 ∧ Kids S r q2 g2

/-- A sound tree of a level: its pairs, its pages. -/
def Snd (N : List Nd) : Nat → Nat → Pairs → List Nat → Prop
  | 0, p, qs, pg => nodeOf N p = some (0, qs) ∧ 0 < qs.length ∧ qs.length ≤ 15 ∧ pg = [p]
  | l + 1, p, qs, pg => ∃ ps g, nodeOf N p = some (l + 1, ps) ∧ 0 < ps.length ∧ ps.length ≤ 15 ∧ Kids (Snd N l) ps qs g ∧ pg = p :: g

/-- What a node's pairs lead to. -/
def Body (N : List Nd) : Nat → Pairs → Pairs → List Nat → Prop
  | 0, ps, qs, pg => ps = qs ∧ pg = []
  | l + 1, ps, qs, pg => Kids (Snd N l) ps qs pg

theorem snd_iff {N : List Nd} {l p : Nat} {qs : Pairs} {pg : List Nat} : Snd N l p qs pg ↔ ∃ ps g, nodeOf N p = some (l, ps) ∧ 0 < ps.length ∧ ps.length ≤ 15 ∧ Body N l ps qs g ∧ pg = p :: g := by
  cases l with
  | zero =>
    constructor
    · rintro ⟨h1, h2, h3, rfl⟩
      exact ⟨qs, [], h1, h2, h3, ⟨rfl, rfl⟩, rfl⟩
    · rintro ⟨ps, g, h1, h2, h3, ⟨rfl, rfl⟩, rfl⟩
      exact ⟨h1, h2, h3, rfl⟩
  | succ l => exact Iff.rfl

theorem Kids.mono {S T : Nat → Pairs → List Nat → Prop} (h : ∀ v q g, S v q g → T v q g) : ∀ {ps qs : Pairs} {pg : List Nat}, Kids S ps qs pg → Kids T ps qs pg := by
  intro ps
  induction ps with
  | nil => intro qs pg h; exact h
  | cons kv r ih =>
    rintro qs pg ⟨q1, q2, g1, g2, e1, e2, h1, h2, h3, h4⟩
    exact ⟨q1, q2, g1, g2, e1, e2, h _ _ _ h1, h2, h3, ih h4⟩

theorem Kids.append {S : Nat → Pairs → List Nat → Prop} : ∀ {a b qa qb : Pairs} {ga gb : List Nat}, Kids S a qa ga → Kids S b qb gb → Kids S (a ++ b) (qa ++ qb) (ga ++ gb) := by
  intro a
  induction a with
  | nil => rintro b qa qb ga gb ⟨rfl, rfl⟩ h; exact h
  | cons kv r ih =>
    rintro b qa qb ga gb ⟨q1, q2, g1, g2, rfl, rfl, h1, h2, h3, h4⟩ h
    exact ⟨q1, q2 ++ qb, g1, g2 ++ gb, by simp, by simp, h1, h2, h3, ih h4 h⟩

theorem Kids.split {S : Nat → Pairs → List Nat → Prop} : ∀ {a b qs : Pairs} {pg : List Nat}, Kids S (a ++ b) qs pg → ∃ qa qb ga gb, qs = qa ++ qb ∧ pg = ga ++ gb ∧ Kids S a qa ga ∧ Kids S b qb gb := by
  intro a
  induction a with
  | nil => intro b qs pg h; exact ⟨[], qs, [], pg, rfl, rfl, ⟨rfl, rfl⟩, h⟩
  | cons kv r ih =>
    rintro b qs pg ⟨q1, q2, g1, g2, rfl, rfl, h1, h2, h3, h4⟩
    obtain ⟨qa, qb, ga, gb, rfl, rfl, k1, k2⟩ := ih h4
    exact ⟨q1 ++ qa, qb, g1 ++ ga, gb, by simp, by simp, ⟨q1, qa, g1, ga, rfl, rfl, h1, h2, h3, k1⟩, k2⟩

theorem Kids.pos {S : Nat → Pairs → List Nat → Prop} {ps qs : Pairs} {pg : List Nat} (h : Kids S ps qs pg) (h0 : 0 < ps.length) : 0 < qs.length ∧ keyAt qs 0 = keyAt ps 0 := by
  cases ps with
  | nil => cases h0
  | cons kv r =>
    obtain ⟨q1, q2, g1, g2, rfl, rfl, h1, h2, h3, h4⟩ := h
    refine ⟨by simp; omega, ?_⟩
    cases q1 with
    | nil => cases h2
    | cons p t => exact h3

theorem Kids.nil {S : Nat → Pairs → List Nat → Prop} {ps qs : Pairs} {pg : List Nat} (h : Kids S ps qs pg) (h0 : qs = []) : ps = [] := by
  cases ps with
  | nil => rfl
  | cons kv r =>
    have := (h.pos (by simp)).1
    rw [h0] at this
    cases this

/-- The keys of a node are among those of its pairs. -/
theorem Kids.key {S : Nat → Pairs → List Nat → Prop} : ∀ {ps qs : Pairs} {pg : List Nat}, Kids S ps qs pg → ∀ p ∈ ps, ∃ q ∈ qs, q.1 = p.1 := by
  intro ps
  induction ps with
  | nil => intro qs pg h p hp; cases hp
  | cons kv r ih =>
    rintro qs pg ⟨q1, q2, g1, g2, rfl, rfl, h1, h2, h3, h4⟩ p hp
    rcases List.mem_cons.1 hp with rfl | hp
    · cases q1 with
      | nil => cases h2
      | cons x t => exact ⟨x, by simp, h3⟩
    · obtain ⟨q, hq, e⟩ := ih h4 p hp
      exact ⟨q, List.mem_append_right _ hq, e⟩

theorem Kids.srt {S : Nat → Pairs → List Nat → Prop} : ∀ {ps qs : Pairs} {pg : List Nat}, Kids S ps qs pg → Srt qs → Srt ps := by
  intro ps
  induction ps with
  | nil => intro qs pg h hs; exact .nil
  | cons kv r ih =>
    rintro qs pg ⟨q1, q2, g1, g2, rfl, rfl, h1, h2, h3, h4⟩ hs
    obtain ⟨s1, s2, s3⟩ := List.pairwise_append.1 hs
    refine List.pairwise_cons.2 ⟨fun p hp => ?_, ih h4 s2⟩
    obtain ⟨q, hq, e⟩ := h4.key p hp
    cases q1 with
    | nil => cases h2
    | cons x t =>
      rw [← e, ← h3]
      exact s3 x (by simp) q hq

theorem body_srt {N : List Nd} {l : Nat} {ps qs : Pairs} {pg : List Nat} (h : Body N l ps qs pg) (hs : Srt qs) : Srt ps := by
  cases l with
  | zero => obtain ⟨rfl, _⟩ := h; exact hs
  | succ l => exact Kids.srt h hs
theorem body_pos {N : List Nd} {l : Nat} {ps qs : Pairs} {pg : List Nat} (h : Body N l ps qs pg) (h0 : 0 < ps.length) : 0 < qs.length ∧ keyAt qs 0 = keyAt ps 0 := by
  cases l with
  | zero => obtain ⟨rfl, _⟩ := h; exact ⟨h0, rfl⟩
  | succ l => exact Kids.pos h h0
theorem body_key {N : List Nd} {l : Nat} {ps qs : Pairs} {pg : List Nat} (h : Body N l ps qs pg) : ∀ p ∈ ps, ∃ q ∈ qs, q.1 = p.1 := by
  cases l with
  | zero => obtain ⟨rfl, _⟩ := h; exact fun p hp => ⟨p, hp, rfl⟩
  | succ l => exact Kids.key h

theorem nodeOf_app {N M : List Nd} {p : Nat} {nd : Nd} (h : nodeOf N p = some nd) : nodeOf (N ++ M) p = some nd := by
  unfold nodeOf at h ⊢
  split at h
  · cases h
  · rename_i h0
    rw [if_neg h0, List.getElem?_append_left (List.getElem?_eq_some_iff.1 h).1]
    exact h
theorem nodeOf_le {N : List Nd} {p : Nat} {nd : Nd} (h : nodeOf N p = some nd) : 1 ≤ p ∧ p ≤ N.length := by
  obtain ⟨i, hi, e, _⟩ := nodeOf_at h
  omega

theorem snd_app {N M : List Nd} : ∀ {l p : Nat} {qs : Pairs} {pg : List Nat}, Snd N l p qs pg → Snd (N ++ M) l p qs pg := by
  intro l
  induction l with
  | zero => rintro p qs pg ⟨h1, h2⟩; exact ⟨nodeOf_app h1, h2⟩
  | succ l ih =>
    rintro p qs pg ⟨ps, g, h1, h2, h3, h4, h5⟩
    exact ⟨ps, g, nodeOf_app h1, h2, h3, h4.mono fun _ _ _ => ih, h5⟩
theorem body_app {N M : List Nd} {l : Nat} {ps qs : Pairs} {pg : List Nat} (h : Body N l ps qs pg) : Body (N ++ M) l ps qs pg := by
  cases l with
  | zero => exact h
  | succ l => exact Kids.mono (fun _ _ _ => snd_app) h

/-- Pages are there. -/
theorem kids_pages {S : Nat → Pairs → List Nat → Prop} {n : Nat} (hS : ∀ v q g, S v q g → ∀ x ∈ g, 1 ≤ x ∧ x ≤ n) : ∀ {ps qs : Pairs} {pg : List Nat}, Kids S ps qs pg → ∀ x ∈ pg, 1 ≤ x ∧ x ≤ n := by
  intro ps
  induction ps with
  | nil => rintro qs pg ⟨_, rfl⟩ x hx; cases hx
  | cons kv r ih =>
    rintro qs pg ⟨q1, q2, g1, g2, rfl, rfl, h1, h2, h3, h4⟩ x hx
    rcases List.mem_append.1 hx with hx | hx
    · exact hS _ _ _ h1 x hx
    · exact ih h4 x hx
theorem snd_pages {N : List Nd} : ∀ {l p : Nat} {qs : Pairs} {pg : List Nat}, Snd N l p qs pg → ∀ x ∈ pg, 1 ≤ x ∧ x ≤ N.length := by
  intro l
  induction l with
  | zero =>
    rintro p qs pg ⟨h1, _, _, rfl⟩ x hx
    rw [List.mem_singleton.1 hx]
    exact nodeOf_le h1
  | succ l ih =>
    rintro p qs pg ⟨ps, g, h1, h2, h3, h4, rfl⟩ x hx
    rcases List.mem_cons.1 hx with rfl | hx
    · exact nodeOf_le h1
    · exact kids_pages (fun _ _ _ => ih) h4 x hx
theorem body_pages {N : List Nd} {l : Nat} {ps qs : Pairs} {pg : List Nat} (h : Body N l ps qs pg) : ∀ x ∈ pg, 1 ≤ x ∧ x ≤ N.length := by
  cases l with
  | zero => obtain ⟨_, rfl⟩ := h; intro x hx; cases hx
  | succ l => exact kids_pages (fun _ _ _ => snd_pages) h

/-- A kid's page is a page. -/
theorem snd_page {N : List Nd} {l p : Nat} {qs : Pairs} {pg : List Nat} (h : Snd N l p qs pg) : 1 ≤ p ∧ p ≤ N.length := by
  obtain ⟨ps, g, h1, _⟩ := snd_iff.1 h
  exact nodeOf_le h1

end Go.Proofs.Ytdbanlifneomgaa
