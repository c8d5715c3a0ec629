import Derived.Test.YtdbanlifneomgaaTn8L
/- Trees: what is parted, what climbs, and the way of a key. Of no program. -/
set_option linter.unusedVariables false
namespace Go.Proofs.Ytdbanlifneomgaa
open Go.RowKit

/-- Nodes are added, so many pairs each. -/
def nodesM (c lv m : Nat) (l : Pairs) (N : List Nd) : Option Pairs × List Nd :=
  if N.length + partsOf m l.length ≤ c then (some (leadsOf N.length m l (partsOf m l.length)), N ++ nodesOf lv m l (partsOf m l.length)) else (none, N ++ nodesOf lv m l (c - N.length))
/-- A node is added, parted if it has a pair too many. -/
def partM (c lv : Nat) (l : Pairs) (N : List Nd) : Option Pairs × List Nd := nodesM c lv (if 15 < l.length then 8 else 15) l N
/-- What a node becomes. -/
def withM (s : Stp) (xs : Pairs) : Pairs := s.ps.take s.fr ++ xs ++ s.ps.drop s.to
/-- What climbs up a way. -/
def climbM (c : Nat) : List Stp → Pairs → List Nd → Option Pairs × List Nd
  | [], xs, N => (some xs, N)
  | [s], xs, N => (some (withM s xs), N)
  | s :: t :: r, xs, N => match climbM c (t :: r) xs N with
    | (none, N1) => (none, N1)
    | (some l, N1) => match partM c t.lv l N1 with
      | (none, N2) => (none, N2)
      | (some ls, N2) => (some (withM s ls), N2)

/-- What a node that isn't added yet weighs. -/
def phiB (N : List Nd) (lv : Nat) (l : Pairs) (g : List Nat) : Nat := if lv = 0 then (if l.length = 0 then 0 else max l.length 8) else phi N g

theorem phi_node {N : List Nd} {l v : Nat} {ps q : Pairs} {g : List Nat} (h : nodeOf N v = some (l, ps)) (h0 : 0 < ps.length) (hb : Body N l ps q g) : phi N (v :: g) = phiB N l ps g := by
  rw [phi_cons]
  unfold wt phiB
  rw [h]
  cases l with
  | zero =>
    obtain ⟨_, rfl⟩ := hb
    simp [phi]
    intro e
    rw [e] at h0; cases h0
  | succ l => simp

theorem phiB_app {N M : List Nd} {l : Nat} {ps q : Pairs} {g : List Nat} (hb : Body N l ps q g) : phiB (N ++ M) l ps g = phiB N l ps g := by
  unfold phiB
  rw [phi_app (body_pages hb)]

theorem part_ok {N : List Nd} {lv : Nat} {l qs : Pairs} {g : List Nat} (h : Body N lv l qs g) (hl : l.length ≤ 16) (c : Nat) {o : Option Pairs} {N' : List Nd} (e : partM c lv l N = (o, N')) :
    ∃ M, N' = N ++ M ∧ M.length ≤ 2 ∧ N'.length ≤ max c N.length ∧ ∀ ls, o = some ls → ∃ g', Kids (Snd N' lv) ls qs g' ∧ PgR N.length N'.length g g' ∧ (0 < l.length → 0 < ls.length) ∧ ls.length ≤ (if l.length ≤ 15 then 1 else 2) ∧ phi N' g' = phiB N lv l g := by
  unfold partM nodesM at e
  obtain ⟨m, hm⟩ : ∃ m, (if 15 < l.length then 8 else 15) = m := ⟨_, rfl⟩
  have hm8 : m = 8 ∧ 15 < l.length ∨ m = 15 ∧ l.length ≤ 15 := by
    rw [← hm]
    split
    · exact .inl ⟨rfl, by omega⟩
    · exact .inr ⟨rfl, by omega⟩
  rw [hm] at e
  have hK : partsOf m l.length ≤ 2 := by
    unfold partsOf
    rcases hm8 with ⟨rfl, _⟩ | ⟨rfl, _⟩ <;> omega
  have hK1 : partsOf m l.length ≤ (if l.length ≤ 15 then 1 else 2) := by
    unfold partsOf
    rcases hm8 with ⟨rfl, h1⟩ | ⟨rfl, h1⟩
    · rw [if_neg (by omega)]; omega
    · rw [if_pos h1]; omega
  have hK0 : 0 < l.length → 0 < partsOf m l.length := by
    unfold partsOf
    rcases hm8 with ⟨rfl, h1⟩ | ⟨rfl, h1⟩ <;> omega
  split at e
  · rename_i hfit
    obtain ⟨rfl, rfl⟩ := Prod.mk.inj e
    refine ⟨_, rfl, by rw [nodesOf_length]; exact hK, by rw [List.length_append, nodesOf_length]; omega, ?_⟩
    rintro ls rfl'
    obtain rfl := Option.some.inj rfl'
    obtain ⟨qa, qb, ga, gb, ga', rfl, rfl, h1, h2, h3, h4⟩ := nodes_ok h (m := m) (by rcases hm8 with ⟨rfl, _⟩ | ⟨rfl, _⟩ <;> omega) (by rcases hm8 with ⟨rfl, _⟩ | ⟨rfl, _⟩ <;> omega) _ (Nat.le_refl _)
    have hd : l.drop (m * partsOf m l.length) = [] := by
      rw [List.drop_eq_nil_iff]
      rcases Nat.lt_or_ge (m * partsOf m l.length) l.length with h' | h'
      · have := (parts_lt (n := l.length) (j := partsOf m l.length) (m := m) (by rcases hm8 with ⟨rfl, _⟩ | ⟨rfl, _⟩ <;> omega)).2 h'
        omega
      · exact h'
    rw [hd] at h1
    have hqb : qb = [] ∧ gb = [] := by
      cases lv with
      | zero => exact ⟨h1.1.symm, h1.2⟩
      | succ lv => exact h1
    obtain ⟨rfl, rfl⟩ := hqb
    rw [List.append_nil] at *
    refine ⟨ga', h2, ?_, by rw [leadsOf_length]; exact hK0, by rw [leadsOf_length]; exact hK1, ?_⟩
    · rw [List.length_append, nodesOf_length]; simpa using h3
    · rw [h4]
      unfold phiB
      by_cases hlv : lv = 0
      · rw [if_pos hlv, if_pos hlv]
        rcases hm8 with ⟨rfl, h1⟩ | ⟨rfl, h1⟩
        · have : partsOf 8 l.length = 2 := by unfold partsOf; omega
          rw [this]
          simp only [partW, List.range, List.range.loop, List.map_cons, List.map_nil, List.sum_cons, List.sum_nil, List.length_take, List.length_drop]
          rw [if_neg (by omega)]
          omega
        · rcases Nat.eq_zero_or_pos l.length with h0 | h0
          · have : partsOf 15 l.length = 0 := by unfold partsOf; omega
            rw [this, if_pos h0]; rfl
          · have : partsOf 15 l.length = 1 := by unfold partsOf; omega
            rw [this, if_neg (by omega)]
            simp only [partW, List.range, List.range.loop, List.map_cons, List.map_nil, List.sum_cons, List.sum_nil, List.length_take, List.length_drop]
            omega
      · rw [if_neg hlv, if_neg hlv]
        simp
  · rename_i hfit
    obtain ⟨rfl, rfl⟩ := Prod.mk.inj e
    refine ⟨_, rfl, by rw [nodesOf_length]; omega, by rw [List.length_append, nodesOf_length]; omega, ?_⟩
    intro ls h
    cases h

theorem toOf_le {ps : Pairs} (h : Srt ps) (k : Nat) : belowK ps k ≤ toOf ps k ∧ toOf ps k ≤ belowK ps k + 1 ∧ toOf ps k ≤ ps.length := by
  have hb : belowK ps k ≤ ps.length := List.countP_le_length
  refine ⟨by unfold toOf; split <;> omega, by unfold toOf; split <;> omega, ?_⟩
  unfold toOf
  split
  · rename_i hk
    rcases Nat.lt_or_ge (belowK ps k) ps.length with h1 | h1
    · omega
    · exfalso
      unfold hasK at hk
      rw [List.any_eq_true] at hk
      obtain ⟨p, hp, e⟩ := hk
      have hall : ps.countP (fun p => decide (p.1 < k)) = ps.length := Nat.le_antisymm List.countP_le_length h1
      have := (List.countP_eq_length.1 hall) p hp
      simp at this e
      omega
  · exact hb

theorem leaf_len {ps xs : Pairs} (h : Srt ps) (k : Nat) (hx : xs.length ≤ 1) : (ps.take (belowK ps k) ++ xs ++ ps.drop (toOf ps k)).length ≤ ps.length + xs.length ∧ (0 < xs.length → ps.length ≤ (ps.take (belowK ps k) ++ xs ++ ps.drop (toOf ps k)).length) := by
  obtain ⟨h1, h2, h3⟩ := toOf_le h k
  simp only [List.length_append, List.length_take, List.length_drop]
  refine ⟨by omega, fun h => by omega⟩

/-- The last node of a way: the leaf of a key. -/
def LastS (N : List Nd) (k : Nat) (qs : Pairs) (s : Stp) : Prop := s.lv = 0 ∧ s.fr = belowK s.ps k ∧ s.to = toOf s.ps k ∧ Srt s.ps ∧ (∀ v, (k, v) ∈ qs ↔ (k, v) ∈ s.ps) ∧ s.ps.length ≤ 15

/-- What climbing leaves. -/
def ClimbR (N : List Nd) (k l c : Nat) (ps qs : Pairs) (g : List Nat) (xs : Pairs) (F : Nat) (o : Option Pairs) (N' : List Nd) : Prop :=
  ∃ M, N' = N ++ M ∧ M.length ≤ 2 * l ∧ N'.length ≤ max c N.length ∧ ∀ ps', o = some ps' → ∃ g', Body N' l ps' (chg xs k qs) g' ∧ PgR N.length N'.length g g' ∧ ps'.length ≤ ps.length + xs.length ∧ (0 < xs.length → ps.length ≤ ps'.length) ∧ phiB N' l ps' g' ≤ F

theorem climb_ok {N : List Nd} (hN : N.length ≤ 511) (k : Nat) : ∀ {l : Nat} {root : Bool} {lv : Int} {lo hi p : Nat} {ps qs : Pairs} {g : List Nat}, SndL N root lv lo hi l p ps qs g → l ≤ 7 → ps.length ≤ 15 →
    ∃ ws s, WayG N k ws root lv lo hi p ∧ ws.length = l + 1 ∧ ws.head? = some s ∧ s.lv = l ∧ s.ps = ps ∧ (∃ z, ws.getLast? = some z ∧ LastS N k qs z) ∧
      ∀ c xs, xs.length ≤ 1 → (∀ p ∈ xs, p.1 = k) → ∀ o N', climbM c ws xs N = (o, N') → ClimbR N k l c ps qs g xs (phiB N l ps g + xs.length) o N' := by
  intro l
  induction l with
  | zero =>
    intro root lv lo hi p ps qs g h hl h15
    obtain ⟨hb1, hb2⟩ := h.body
    subst hb1 hb2
    have hs : Srt ps := h.srt
    refine ⟨[⟨0, ps, belowK ps k, toOf ps k⟩], ⟨0, ps, belowK ps k, toOf ps k⟩, ⟨h.node, rfl, h.fit, rfl, rfl⟩, rfl, rfl, rfl, rfl, ⟨_, rfl, rfl, rfl, rfl, hs, fun v => Iff.rfl, h15⟩, ?_⟩
    intro c xs hx hk o N' e
    simp only [climbM] at e
    obtain ⟨rfl, rfl⟩ := Prod.mk.inj e
    refine ⟨[], by simp, by simp, by omega, ?_⟩
    rintro ps' e'
    obtain rfl := Option.some.inj e'
    obtain ⟨l1, l2⟩ := leaf_len hs k hx
    refine ⟨[], ⟨chg_leaf hs xs k, rfl⟩, PgR.refl _ _, l1, l2, ?_⟩
    have h0 := (fit_good' h.fit).2
    unfold withM
    unfold phiB
    rw [if_pos rfl, if_pos rfl]
    dsimp only
    split <;> split <;> omega
  | succ l ih =>
    intro root lv lo hi p ps qs g h hl h15
    obtain ⟨h0g, h0⟩ := fit_good' h.fit
    have hsrt : Srt ps := body_srt h.body h.srt
    have hki : kidOf ps k < ps.length := by
      have : uptoK ps k ≤ ps.length := List.countP_le_length
      unfold kidOf; omega
    obtain ⟨sd1, sd2⟩ := kid_sides hsrt k h0
    obtain ⟨i, hi'⟩ : ∃ i, kidOf ps k = i := ⟨_, rfl⟩
    rw [hi'] at hki sd1 sd2
    obtain ⟨ps', q1, q2, q3, g1, g', g3, rfl, rfl, hk, k1, k3, hp15, hq3, hq2, hsnd⟩ := h.kid hl hN i hki
    obtain ⟨ws, s, hw, hwl, hws, hslv, hsps, ⟨z, hz, hzl⟩, hc⟩ := ih hk (by omega) hp15
    have hq1k : ∀ p ∈ q1, p.1 < k := by
      intro p hp
      rcases Nat.eq_zero_or_pos i with e | e
      · subst e
        obtain ⟨rfl, _⟩ : q1 = [] ∧ g1 = [] := by simpa [Kids] using k1
        cases hp
      · have hs := (srt_le h.srt).1 p hp
        have h1 : 0 < q2.length := by
          obtain ⟨pp, gg, n1, n2, n3, n4, _⟩ := snd_iff.1 hsnd
          exact (body_pos n4 n2).1
        obtain ⟨v, hv⟩ := keyAt_mem h1
        have := hs _ hv
        have e2 : keyAt q2 0 = keyAt ps i := by
          rw [(body_pos hk.body (fit_good' hk.fit).2).2]
          exact hk.fit.2.2.2.1
        have := sd1 e
        simp only at *
        omega
    have hq3k : ∀ p ∈ q3, k < p.1 := by
      intro p hp
      rcases Nat.lt_or_ge (i + 1) ps.length with e | e
      · have := sd2 e
        have := hq3 p hp
        omega
      · have : ps.drop (i + 1) = [] := List.drop_eq_nil_iff.2 e
        rw [this] at k3
        obtain ⟨rfl, _⟩ := k3
        cases hp
    obtain ⟨t, r, rfl⟩ : ∃ t r, ws = t :: r := by
      cases ws with
      | nil => cases hwl
      | cons t r => exact ⟨t, r, rfl⟩
    obtain rfl : t = s := by simpa using hws
    refine ⟨⟨l + 1, ps, i, i + 1⟩ :: t :: r, ⟨l + 1, ps, i, i + 1⟩, ⟨h.node, by simp, h.fit, hi'.symm, rfl, ?_⟩, by simp [hwl], rfl, rfl, rfl, ⟨z, by simpa [List.getLast?_cons_cons] using hz, ?_⟩, ?_⟩
    · have : ((l + 1 : Nat) : Int) - 1 = (l : Int) := by omega
      show WayG N k (t :: r) false (((l + 1 : Nat) : Int) - 1) (keyAt ps i) (highOf ps i hi) (valAt ps i)
      rw [this]
      exact hw
    · obtain ⟨z1, z2, z3, z4, z5, z6⟩ := hzl
      refine ⟨z1, z2, z3, z4, fun v => ?_, z6⟩
      rw [← z5]
      simp only [List.mem_append]
      constructor
      · rintro ((h | h) | h)
        · have := hq1k _ h; simp at this
        · exact h
        · have := hq3k _ h; simp at this
      · intro h; exact .inl (.inr h)
    · intro c xs hx hkx o N' e
      unfold climbM at e
      cases hcl : climbM c (t :: r) xs N with
      | mk o1 N1 =>
        rw [hcl] at e
        obtain ⟨M1, rfl, m1, m2, m3⟩ := hc c xs hx hkx o1 N1 hcl
        cases o1 with
        | none =>
          obtain ⟨rfl, rfl⟩ := Prod.mk.inj e
          exact ⟨M1, rfl, by omega, m2, by intro ps' h; cases h⟩
        | some l1 =>
          obtain ⟨ga, b1, b2, b3, b4, b5⟩ := m3 l1 rfl
          dsimp only at e
          cases hpt : partM c t.lv l1 (N ++ M1) with
          | mk o2 N2 =>
            rw [hpt] at e
            rw [hslv] at hpt
            obtain ⟨M2, rfl, p1, p2, p3⟩ := part_ok b1 (by omega) c hpt
            cases o2 with
            | none =>
              obtain ⟨rfl, rfl⟩ := Prod.mk.inj e
              exact ⟨M1 ++ M2, by simp, by simp; omega, by omega, by intro ps' h; cases h⟩
            | some ls =>
              obtain ⟨rfl, rfl⟩ := Prod.mk.inj e
              obtain ⟨gb, d1, d2, d3, d4, d5⟩ := p3 ls rfl
              refine ⟨M1 ++ M2, by simp, by simp; omega, by omega, ?_⟩
              rintro ps2 e2
              obtain rfl := Option.some.inj e2
              have hlen : (withM ⟨l + 1, ps, i, i + 1⟩ ls).length = i + ls.length + (ps.length - (i + 1)) := by
                simp only [withM, List.length_append, List.length_take, List.length_drop]; omega
              refine ⟨g1 ++ gb ++ g3, ?_, ?_, ?_, ?_, ?_⟩
              · rw [chg_mid hq1k hq3k]
                show Kids (Snd (N ++ M1 ++ M2) l) (ps.take i ++ ls ++ ps.drop (i + 1)) _ _
                exact ((k1.mono fun _ _ _ h => snd_app (snd_app h)).append d1).append (k3.mono fun _ _ _ h => snd_app (snd_app h))
              · refine PgR.mid ?_ g1 g3
                exact (b2.cons (valAt ps i)).trans d2 (by simp) (by simp)
              · rw [hlen]
                have : ls.length ≤ 1 + xs.length := by
                  split at d4
                  · omega
                  · omega
                omega
              · intro hxs
                rw [hlen]
                have : 0 < ls.length := d3 (by have := b4 hxs; have := (fit_good' hk.fit).2; omega)
                omega
              · have hg1 := kids_pages (fun _ _ _ => snd_pages) k1
                have hg3 := kids_pages (fun _ _ _ => snd_pages) k3
                have e1 : phi (N ++ M1 ++ M2) g1 = phi N g1 := by rw [List.append_assoc]; exact phi_app hg1
                have e3 : phi (N ++ M1 ++ M2) g3 = phi N g3 := by rw [List.append_assoc]; exact phi_app hg3
                have e2 : phi N (valAt ps i :: g') = phiB N l ps' g' := phi_node hk.node (fit_good' hk.fit).2 hk.body
                unfold phiB
                rw [if_neg (by omega), if_neg (by omega)]
                rw [phi_append, phi_append, phi_append, phi_append, e1, e3, e2, d5]
                omega

end Go.Proofs.Ytdbanlifneomgaa
