import Derived.Test.YtdbanlifneomgaaTo8Q
/- Trees: Put, Drop, Get, Build over nodes. Of no program. -/
set_option linter.unusedVariables false
namespace Go.Proofs.Ytdbanlifneomgaa
open Go.RowKit

/-- Nodes up to a single one. -/
def pileM (c : Nat) : Nat → Nat → Pairs → List Nd → Option Nat × List Nd
  | 0, _, _, N => (some 0, N)
  | f + 1, lv, l, N => if l.length = 0 then (some 0, N) else match nodesM c lv 15 l N with
    | (none, N1) => (none, N1)
    | (some ls, N1) => if ls.length = 1 then (some (valAt ls 0), N1) else pileM c f (lv + 1) ls N1

/-- So many nodes that takes. -/
def needM : Nat → Nat → Nat
  | 0, _ => 0
  | f + 1, n => if n = 0 then 0 else partsOf 15 n + (if n ≤ 15 then 0 else needM f (partsOf 15 n))

def topH : Nat := 18446744073709551615
/-- A tree. -/
def TreeG (N : List Nd) (root l : Nat) (qs : Pairs) (g : List Nat) : Prop :=
  (root = 0 ∧ qs = [] ∧ g = [] ∧ l = 0) ∨ ∃ ps g', SndL N true 0 0 topH l root ps qs g' ∧ l ≤ 7 ∧ ps.length ≤ 15 ∧ g = root :: g'

theorem TreeG.srt {N : List Nd} {root l : Nat} {qs : Pairs} {g : List Nat} (h : TreeG N root l qs g) : Srt qs := by
  rcases h with ⟨_, rfl, _⟩ | ⟨ps, g', h, _⟩
  · exact .nil
  · exact h.srt
theorem TreeG.le {N : List Nd} {root l : Nat} {qs : Pairs} {g : List Nat} (h : TreeG N root l qs g) : ∀ q ∈ qs, q.1 ≤ topH := by
  rcases h with ⟨_, rfl, _⟩ | ⟨ps, g', h, _⟩
  · intro q hq; cases hq
  · exact h.high
theorem TreeG.pages {N : List Nd} {root l : Nat} {qs : Pairs} {g : List Nat} (h : TreeG N root l qs g) : ∀ x ∈ g, 1 ≤ x ∧ x ≤ N.length := by
  rcases h with ⟨_, _, rfl, _⟩ | ⟨ps, g', h, _, _, rfl⟩
  · intro q hq; cases hq
  · intro x hx
    rcases List.mem_cons.1 hx with rfl | hx
    · exact nodeOf_le h.node
    · exact body_pages h.body x hx
theorem TreeG.app {N M : List Nd} {root l : Nat} {qs : Pairs} {g : List Nat} (h : TreeG N root l qs g) : TreeG (N ++ M) root l qs g := by
  rcases h with h | ⟨ps, g', h, h2, h3, h4⟩
  · exact .inl h
  · exact .inr ⟨ps, g', ⟨nodeOf_app h.node, h.fit, body_app h.body, h.srt, h.high⟩, h2, h3, h4⟩

theorem root_fit {N : List Nd} {l : Nat} {ps qs : Pairs} {g : List Nat} (h : Body N l ps qs g) (hs : Srt qs) (h0 : 0 < ps.length) (h1 : ps.length ≤ 15) (hl : l ≤ 7) (hN : N.length ≤ 511) (hr : l = 0 ∨ 2 ≤ ps.length) : FitOk true 0 0 topH l ps :=
  ⟨body_good h hs h0 h1 hl hN, h0, by omega⟩

theorem pile_ok {c : Nat} (hc : c ≤ 511) : ∀ (f lv : Nat) (l qs : Pairs) (g : List Nat) (N : List Nd) (d : Nat), Body N lv l qs g → N.length ≤ 511 → 0 < l.length → (lv = 0 ∨ 2 ≤ l.length) → l.length ≤ f → l.length ≤ 15 ^ (d + 1) → lv + d ≤ 7 → Srt qs → (∀ q ∈ qs, q.1 ≤ topH) →
    ∀ o N', pileM c f lv l N = (o, N') → ∃ M, N' = N ++ M ∧ N'.length ≤ max c N.length ∧ ∀ r, o = some r → ∃ lv' g', lv' ≤ lv + d ∧ TreeG N' r lv' qs g' ∧ PgR N.length N'.length g g' ∧ (l.length ≤ 15 → lv' = lv ∧ phi N' g' = phiB N lv l g ∧ M.length = 1) := by
  intro f
  induction f with
  | zero => intro lv l qs g N d _ _ h0 _ hf; omega
  | succ f ih =>
    intro lv l qs g N d hb hN h0 hr hf hd hlv hs hh o N' e
    unfold pileM at e
    rw [if_neg (by omega)] at e
    unfold nodesM at e
    split at e
    · rename_i o1 N1 heq
      split at heq
      · cases heq
      · obtain ⟨_, rfl⟩ := Prod.mk.inj heq
        obtain ⟨rfl, rfl⟩ := Prod.mk.inj e
        exact ⟨_, rfl, by rw [List.length_append, nodesOf_length]; omega, by intro r h; cases h⟩
    · rename_i o1 ls N1 heq
      split at heq
      · rename_i hfit
        obtain ⟨e1, rfl⟩ := Prod.mk.inj heq
        obtain rfl := Option.some.inj e1
        obtain ⟨qa, qb, ga, gb, ga', rfl, rfl, h1, h2, h3, h4⟩ := nodes_ok hb (m := 15) (by omega) (by omega) _ (Nat.le_refl _)
        have hdr : l.drop (15 * partsOf 15 l.length) = [] := by
          rw [List.drop_eq_nil_iff]
          unfold partsOf; omega
        rw [hdr] at h1
        have hqb : qb = [] ∧ gb = [] := by
          cases lv with
          | zero => exact ⟨h1.1.symm, h1.2⟩
          | succ lv => exact h1
        obtain ⟨rfl, rfl⟩ := hqb
        simp only [List.append_nil] at *
        have hlen1 : (N ++ nodesOf lv 15 l (partsOf 15 l.length)).length = N.length + partsOf 15 l.length := by rw [List.length_append, nodesOf_length]
        split at e
        · rename_i hone
          rw [leadsOf_length] at hone
          obtain ⟨rfl, rfl⟩ := Prod.mk.inj e
          have hl15 : l.length ≤ 15 := by unfold partsOf at hone; omega
          rw [hone] at h2 h3 h4 hlen1 ⊢
          have hnode : nodeOf (N ++ nodesOf lv 15 l 1) (N.length + 1) = some (lv, l) := by
            unfold nodeOf
            rw [if_neg (by omega), List.getElem?_append_right (by simp)]
            simp only [nodesOf, List.range, List.range.loop, List.map_cons, List.map_nil, Nat.mul_zero, List.drop_zero, Nat.add_sub_cancel, Nat.sub_self, List.getElem?_cons_zero]
            rw [List.take_of_length_le hl15]
          have hbody := body_app (M := nodesOf lv 15 l 1) hb
          have hval : valAt (leadsOf N.length 15 l 1) 0 = N.length + 1 := by simp [leadsOf, valAt, List.range, List.range.loop]
          rw [hval]
          refine ⟨_, rfl, by omega, ?_⟩
          rintro r e
          obtain rfl := Option.some.inj e
          refine ⟨lv, (N.length + 1) :: ga, by omega, .inr ⟨l, ga, ⟨hnode, root_fit hbody hs h0 hl15 (by omega) (by omega) hr, hbody, hs, hh⟩, by omega, hl15, rfl⟩, ?_, fun _ => ⟨rfl, ?_, ?_⟩⟩
          · rw [hlen1]
            exact ⟨ga, [N.length + 1], List.perm_append_comm (l₁ := [N.length + 1]), .refl ga, by simp, by simp⟩
          · rw [phi_node hnode h0 hbody, phiB_app hb]
          · rw [nodesOf_length]
        · rename_i hone
          rw [leadsOf_length] at hone
          have hK0 : 0 < partsOf 15 l.length := by unfold partsOf; omega
          have h16 : 15 < l.length := by unfold partsOf at hone hK0; omega
          obtain ⟨d, rfl⟩ : ∃ d', d = d' + 1 := by
            cases d with
            | zero => simp at hd; omega
            | succ d => exact ⟨d, rfl⟩
          have hKd : partsOf 15 l.length ≤ 15 ^ (d + 1) := by
            unfold partsOf
            rw [Nat.pow_succ] at hd
            omega
          obtain ⟨M, rfl, r1, r2⟩ := ih (lv + 1) (leadsOf N.length 15 l (partsOf 15 l.length)) qa ga' _ d h2 (by omega) (by rw [leadsOf_length]; omega) (.inr (by rw [leadsOf_length]; omega)) (by rw [leadsOf_length]; unfold partsOf; omega) (by rw [leadsOf_length]; exact hKd) (by omega) hs hh o N' e
          refine ⟨_, by rw [List.append_assoc], by omega, ?_⟩
          intro r hr'
          obtain ⟨lv', g', s1, s2, s3, _⟩ := r2 r hr'
          refine ⟨lv', g', by omega, s2, ?_, fun h => by omega⟩
          have : PgR N.length (N ++ nodesOf lv 15 l (partsOf 15 l.length)).length ga ga' := by rw [hlen1]; exact h3
          exact this.trans s3 (by omega) (by simp)
      · cases heq

theorem pile_need {c : Nat} : ∀ (f lv : Nat) (l : Pairs) (N : List Nd), l.length ≤ f → ∀ o N', pileM c f lv l N = (o, N') → N.length ≤ c →
    (c < N.length + needM f l.length → o = none) ∧ (N.length + needM f l.length ≤ c → o.isSome ∧ N'.length = N.length + needM f l.length) := by
  intro f
  induction f with
  | zero =>
    intro lv l N hf o N' e hN
    obtain ⟨rfl, rfl⟩ := Prod.mk.inj e
    simp [needM]; omega
  | succ f ih =>
    intro lv l N hf o N' e hN
    unfold pileM at e
    unfold needM
    split at e
    · rename_i h0
      obtain ⟨rfl, rfl⟩ := Prod.mk.inj e
      rw [if_pos h0]; simp; omega
    · rename_i h0
      rw [if_neg h0]
      unfold nodesM at e
      split at e
      · rename_i o1 N1 heq
        split at heq
        · cases heq
        · obtain ⟨_, rfl⟩ := Prod.mk.inj heq
          obtain ⟨rfl, rfl⟩ := Prod.mk.inj e
          refine ⟨fun _ => rfl, fun h => ?_⟩
          omega
      · rename_i o1 ls N1 heq
        split at heq
        · rename_i hfit
          obtain ⟨e1, rfl⟩ := Prod.mk.inj heq
          obtain rfl := Option.some.inj e1
          have hlen1 : (N ++ nodesOf lv 15 l (partsOf 15 l.length)).length = N.length + partsOf 15 l.length := by rw [List.length_append, nodesOf_length]
          rw [leadsOf_length] at e
          split at e
          · rename_i hone
            obtain ⟨rfl, rfl⟩ := Prod.mk.inj e
            have hl15 : l.length ≤ 15 := by unfold partsOf at hone; omega
            rw [if_pos hl15]
            refine ⟨fun h => by omega, fun h => ⟨rfl, by omega⟩⟩
          · rename_i hone
            have h16 : ¬ l.length ≤ 15 := by unfold partsOf at hone; omega
            rw [if_neg h16]
            have := ih (lv + 1) (leadsOf N.length 15 l (partsOf 15 l.length)) _ (by rw [leadsOf_length]; unfold partsOf; omega) o N' e (by omega)
            rw [leadsOf_length, hlen1] at this
            obtain ⟨t1, t2⟩ := this
            refine ⟨fun h => t1 (by omega), fun h => ?_⟩
            obtain ⟨t3, t4⟩ := t2 (by omega)
            exact ⟨t3, by omega⟩
        · cases heq

/-- The way of a key, of the tree without pairs too. -/
def DescW (N : List Nd) (k root : Nat) (ws : List Stp) : Prop := (root = 0 ∧ ws = [⟨0, [], 0, 0⟩]) ∨ WayG N k ws true 0 0 topH root

def lvOf (ws : List Stp) : Nat := (ws.headD ⟨0, [], 0, 0⟩).lv

def putM (c : Nat) (ws : List Stp) (x : Nat × Nat) (N : List Nd) : Option Nat × List Nd := match climbM c ws [x] N with
  | (none, N1) => (none, N1)
  | (some l, N1) => match partM c (lvOf ws) l N1 with
    | (none, N2) => (none, N2)
    | (some ls, N2) => if 1 < ls.length then pileM c ls.length (lvOf ws + 1) ls N2 else (some (valAt ls 0), N2)

/-- The first page on the way down that can be a root. -/
def lowM (N : List Nd) : Nat → Nat → Nat
  | 0, p => p
  | l + 1, p => match nodeOf N p with
    | some (_, ps) => if 1 < ps.length then p else lowM N l (valAt ps 0)
    | none => p
def dropM (c : Nat) (ws : List Stp) (N : List Nd) : Option Nat × List Nd := match climbM c ws [] N with
  | (none, N1) => (none, N1)
  | (some l, N1) => if 0 < lvOf ws ∧ l.length = 1 then (some (lowM N1 (lvOf ws - 1) (valAt l 0)), N1) else pileM c (l.length + 1) (lvOf ws) l N1

theorem kids_phi {N : List Nd} : ∀ {ps qs : Pairs} {g : List Nat}, Kids (Snd N 0) ps qs g → 8 * ps.length ≤ phi N g := by
  intro ps
  induction ps with
  | nil => intro qs g _; simp
  | cons kv r ih =>
    rintro qs g ⟨q1, q2, g1, g2, rfl, rfl, h1, h2, h3, h4⟩
    have := ih h4
    obtain ⟨n1, n2, n3, rfl⟩ := h1
    rw [phi_append]
    have e : phi N [kv.2] = max q1.length 8 := by
      have : phi N [kv.2] = wt N kv.2 := by simp [phi]
      rw [this]
      unfold wt
      rw [n1]
      rfl
    rw [e, List.length_cons]
    omega

theorem kids_single {S : Nat → Pairs → List Nat → Prop} {ls qs : Pairs} {g : List Nat} (h : Kids S ls qs g) (h1 : ls.length = 1) : S (valAt ls 0) qs g := by
  cases ls with
  | nil => cases h1
  | cons kv r =>
    cases r with
    | nil =>
      obtain ⟨q1, q2, g1, g2, rfl, rfl, h1, h2, h3, rfl, rfl⟩ := h
      simp only [List.append_nil]
      exact h1
    | cons _ _ => simp at h1

theorem chg_le {k v : Nat} {qs xs : Pairs} (h : ∀ q ∈ qs, q.1 ≤ topH) (hk : ∀ p ∈ xs, p.1 ≤ topH) : ∀ q ∈ chg xs k qs, q.1 ≤ topH := by
  intro q hq
  rcases mem_chg hq with h1 | h1
  · exact h q h1
  · exact hk q h1

theorem node_new (N : List Nd) (nd : Nd) : nodeOf (N ++ [nd]) (N.length + 1) = some nd := by
  unfold nodeOf
  rw [if_neg (by omega), List.getElem?_append_right (by omega)]
  simp
theorem part_one {c lv : Nat} {l : Pairs} {N : List Nd} (h0 : 0 < l.length) (h : l.length ≤ 15) : partM c lv l N = if N.length + 1 ≤ c then (some [(keyAt l 0, N.length + 1)], N ++ [(lv, l)]) else (none, N) := by
  have hp : partsOf 15 l.length = 1 := by unfold partsOf; omega
  unfold partM nodesM
  rw [if_neg (show ¬ 15 < l.length by omega), hp]
  split
  · simp [leadsOf, nodesOf, List.range, List.range.loop, List.take_of_length_le h]
  · have : c - N.length = 0 := by omega
    simp [this, nodesOf]

/-- What Put leaves. -/
theorem put_ok {N : List Nd} (hN : N.length ≤ 511) {c root l k v : Nat} {qs : Pairs} {g : List Nat} (hc : c ≤ 511) (h : TreeG N root l qs g) (hl : l ≤ 6) (hk : k ≤ topH) :
    ∃ ws, DescW N k root ws ∧ ws.length = l + 1 ∧ (∃ z, ws.getLast? = some z ∧ LastS N k qs z) ∧ ∀ o N', putM c ws (k, v) N = (o, N') → ∃ M, N' = N ++ M ∧ M.length ≤ 2 * l + 3 ∧ N'.length ≤ max c N.length ∧
      ∀ r, o = some r → ∃ l' g', TreeG N' r l' (chg [(k, v)] k qs) g' ∧ PgR N.length N'.length g g' ∧ l' ≤ l + 1 ∧ phi N' g' ≤ max (phi N g + 1) 8 ∧ (l ≤ 1 → phi N g < 127 → l' ≤ 1) := by
  have hx : Srt [(k, v)] := List.pairwise_singleton ..
  have hxk : ∀ p ∈ [(k, v)], p.1 = k := by intro p hp; rw [List.mem_singleton.1 hp]
  have hxt : ∀ p ∈ [(k, v)], p.1 ≤ topH := by intro p hp; rw [List.mem_singleton.1 hp]; exact hk
  have hs2 := srt_chg h.srt hx hxk
  have hh2 := chg_le (k := k) (v := v) h.le hxt
  have main : ∀ (ws : List Stp) (ps : Pairs) (g0 : List Nat), lvOf ws = l → ps.length ≤ 15 → (l = 0 ∨ 2 ≤ ps.length) → (∀ x ∈ g0, 1 ≤ x ∧ x ≤ N.length) → (∀ o N', climbM c ws [(k, v)] N = (o, N') → ClimbR N k l c ps qs g0 [(k, v)] (max (phi N g + 1) 8) o N') → PgR N.length N.length g g0 → 
      ∀ o N', putM c ws (k, v) N = (o, N') → ∃ M, N' = N ++ M ∧ M.length ≤ 2 * l + 3 ∧ N'.length ≤ max c N.length ∧
      ∀ r, o = some r → ∃ l' g', TreeG N' r l' (chg [(k, v)] k qs) g' ∧ PgR N.length N'.length g g' ∧ l' ≤ l + 1 ∧ phi N' g' ≤ max (phi N g + 1) 8 ∧ (l ≤ 1 → phi N g < 127 → l' ≤ 1) := by
    intro ws ps g0 hlv h15 hroot hg0 hcl hpg o N' e
    unfold putM at e
    cases hc1 : climbM c ws [(k, v)] N with
    | mk o1 N1 =>
      rw [hc1] at e
      obtain ⟨M1, rfl, m1, m2, m3⟩ := hcl o1 N1 hc1
      cases o1 with
      | none =>
        obtain ⟨rfl, rfl⟩ := Prod.mk.inj e
        exact ⟨M1, rfl, by omega, m2, by intro r h; cases h⟩
      | some l1 =>
        obtain ⟨ga, b1, b2, b3, b4, b5⟩ := m3 l1 rfl
        have hone : [(k, v)].length = 1 := rfl
        dsimp only at e
        rw [hlv] at e
        have hl1 : 0 < l1.length := by
          rcases Nat.eq_zero_or_pos l1.length with e0 | e0
          · exfalso
            have : l1 = [] := List.length_eq_zero_iff.1 e0
            subst this
            have : chg [(k, v)] k qs = [] := by
              cases l with
              | zero => exact b1.1.symm
              | succ l => exact b1.1
            have : (k, v) ∈ chg [(k, v)] k qs := by unfold chg; simp
            simp_all
          · exact e0
        cases hpt : partM c l l1 (N ++ M1) with
        | mk o2 N2 =>
          rw [hpt] at e
          obtain ⟨M2, rfl, p1, p2, p3⟩ := part_ok b1 (by omega) c hpt
          cases o2 with
          | none =>
            obtain ⟨rfl, rfl⟩ := Prod.mk.inj e
            exact ⟨M1 ++ M2, by simp, by simp; omega, by omega, by intro r h; cases h⟩
          | some ls =>
            obtain ⟨gb, d1, d2, d3, d4, d5⟩ := p3 ls rfl
            have hls := d3 hl1
            have hpg2 : PgR N.length (N ++ M1 ++ M2).length g gb := ((hpg.trans b2 (by omega) (by simp)).trans d2 (by simp) (by simp))
            dsimp only at e
            have hN2 : (N ++ M1 ++ M2).length ≤ 511 := by omega
            split at e
            · rename_i h2
              have hl2 : ls.length = 2 := by split at d4 <;> omega
              obtain ⟨M3, rfl, r1, r2⟩ := pile_ok hc ls.length (l + 1) ls _ gb _ 0 d1 hN2 (by omega) (.inr (by omega)) (by omega) (by simp; omega) (by omega) hs2 hh2 o N' e
              have h16 : l1.length = 16 := by
                split at d4
                · omega
                · omega
              have hM3 : M3.length ≤ 1 := by
                cases o with
                | none =>
                  have hpz : partsOf 15 ls.length = 1 := by rw [hl2]; rfl
                  unfold pileM at e
                  rw [hl2] at e
                  simp only at e
                  unfold nodesM at e
                  rw [hl2] at e
                  split at e
                  · rename_i e0; omega
                  · split at e
                    · rename_i heq
                      split at heq
                      · cases heq
                      · rename_i hno
                        obtain ⟨_, e3⟩ := Prod.mk.inj e
                        obtain ⟨_, e2⟩ := Prod.mk.inj heq
                        have : (N ++ M1 ++ M2 ++ M3).length = (N ++ M1 ++ M2).length + (c - (N ++ M1 ++ M2).length) := by
                          rw [← e3, ← e2, List.length_append, nodesOf_length]
                        have hp2 : partsOf 15 2 = 1 := rfl
                        rw [hp2] at hno
                        rw [List.length_append] at this
                        omega
                    · rename_i heq
                      split at heq
                      · obtain ⟨e1, _⟩ := Prod.mk.inj heq
                        obtain rfl := Option.some.inj e1
                        rw [leadsOf_length] at e
                        have hp2 : partsOf 15 2 = 1 := rfl
                        rw [hp2] at e
                        simp at e
                      · cases heq
                | some r =>
                  obtain ⟨_, _, _, _, _, t⟩ := r2 r rfl
                  exact Nat.le_of_eq (t (by omega)).2.2
              refine ⟨M1 ++ M2 ++ M3, by simp, by simp; omega, by omega, ?_⟩
              intro r hr
              obtain ⟨lv', g', s1, s2, s3, s4⟩ := r2 r hr
              obtain ⟨s5, s6, _⟩ := s4 (by omega)
              refine ⟨lv', g', s2, hpg2.trans s3 (by simp) (by simp), by omega, ?_, ?_⟩
              · rw [s6]
                unfold phiB
                rw [if_neg (by omega), d5]
                omega
              · intro hl1' hlt
                rcases Nat.eq_zero_or_pos l with e0 | e0
                · omega
                · exfalso
                  obtain rfl : l = 1 := by omega
                  have hb1 : Kids (Snd (N ++ M1) 0) l1 _ ga := b1
                  have := kids_phi hb1
                  have e5 : phiB (N ++ M1) 1 l1 ga = phi (N ++ M1) ga := rfl
                  omega
            · rename_i h2
              obtain ⟨rfl, rfl⟩ := Prod.mk.inj e
              refine ⟨M1 ++ M2, by simp, by simp; omega, by omega, ?_⟩
              rintro r e
              obtain rfl := Option.some.inj e
              have hs1 := kids_single d1 (by omega)
              obtain ⟨pps, gg, n1, n2, n3, n4, rfl⟩ := snd_iff.1 hs1
              have hl15' : l1.length ≤ 15 := by
                rcases Nat.lt_or_ge 15 l1.length with e0 | e0
                · exfalso
                  unfold partM nodesM at hpt
                  rw [if_pos e0] at hpt
                  split at hpt
                  · obtain ⟨e1, _⟩ := Prod.mk.inj hpt
                    obtain rfl := Option.some.inj e1
                    rw [leadsOf_length] at h2
                    unfold partsOf at h2; omega
                  · cases hpt
                · exact e0
              have hroot2 : l = 0 ∨ 2 ≤ pps.length := by
                rcases hroot with e | e
                · exact .inl e
                · right
                  have : 2 ≤ l1.length := by have := b4 (by simp); omega
                  rw [part_one hl1 hl15'] at hpt
                  split at hpt
                  · obtain ⟨e1, e2⟩ := Prod.mk.inj hpt
                    obtain rfl := Option.some.inj e1
                    rw [← e2] at n1
                    have hv : valAt [(keyAt l1 0, (N ++ M1).length + 1)] 0 = (N ++ M1).length + 1 := rfl
                    rw [hv, node_new] at n1
                    simp only [Option.some.injEq, Prod.mk.injEq, true_and] at n1
                    rw [← n1]; exact this
                  · cases hpt
              refine ⟨l, _, .inr ⟨pps, gg, ⟨n1, root_fit n4 hs2 n2 n3 (by omega) hN2 hroot2, n4, hs2, hh2⟩, by omega, n3, rfl⟩, hpg2, by omega, ?_, fun h _ => h⟩
              rw [d5]
              omega
  rcases h with ⟨rfl, rfl, rfl, rfl⟩ | ⟨ps, g', h, h7, h15, rfl⟩
  · refine ⟨[⟨0, [], 0, 0⟩], .inl ⟨rfl, rfl⟩, rfl, ⟨_, rfl, rfl, rfl, rfl, .nil, fun v => by simp, by simp⟩, ?_⟩
    refine main [⟨0, [], 0, 0⟩] [] [] rfl (by simp) (.inl rfl) (by intro x hx; cases hx) ?_ (PgR.refl _ _)
    intro o N' e
    simp only [climbM, withM] at e
    obtain ⟨rfl, rfl⟩ := Prod.mk.inj e
    refine ⟨[], by simp, by simp, by omega, ?_⟩
    rintro ps' e'
    obtain rfl := Option.some.inj e'
    refine ⟨[], ⟨by simp [chg], rfl⟩, PgR.refl _ _, by simp, by simp, ?_⟩
    simp [phiB, phi]
  · obtain ⟨ws, s, hw, hwl, hws, hslv, hsps, hz, hcl⟩ := climb_ok hN k h h7 h15
    refine ⟨ws, .inr hw, hwl, hz, ?_⟩
    refine main ws ps g' ?_ h15 (by have := h.fit.2.2; omega) (body_pages h.body) (fun o N' e => ?_) ?_
    · unfold lvOf
      cases ws with
      | nil => cases hwl
      | cons t r => simp at hws; simp [hws, hslv]
    · obtain ⟨M, e1, e2, e3, e4⟩ := hcl c [(k, v)] (by simp) hxk o N' e
      refine ⟨M, e1, e2, e3, fun ps' e5 => ?_⟩
      obtain ⟨g2, f1, f2, f3, f4, f5⟩ := e4 ps' e5
      refine ⟨g2, f1, f2, f3, f4, ?_⟩
      have := phi_node h.node (fit_good' h.fit).2 h.body
      have : [(k, v)].length = 1 := rfl
      omega
    · exact (PgR.refl N.length g').cons root

/-- The way down to what can be a root. -/
theorem low_ok {N : List Nd} (hN : N.length ≤ 511) : ∀ {l : Nat} {lv : Int} {lo hi p : Nat} {ps qs : Pairs} {g : List Nat}, SndL N false lv lo hi l p ps qs g → l ≤ 7 → ps.length ≤ 15 → hi ≤ topH →
    ∃ l' ps' g', l' ≤ l ∧ SndL N true 0 0 topH l' (lowM N l p) ps' qs g' ∧ ps'.length ≤ 15 ∧ List.Sublist (lowM N l p :: g') (p :: g) ∧ (0 < l' → l' = l → lowM N l p = p) := by
  intro l
  induction l with
  | zero =>
    intro lv lo hi p ps qs g h hl h15 hhi
    refine ⟨0, ps, g, Nat.le_refl _, ⟨h.node, root_fit h.body h.srt (fit_good' h.fit).2 h15 hl hN (.inl rfl), h.body, h.srt, fun q hq => Nat.le_trans (h.high q hq) hhi⟩, h15, .refl _, fun h => by omega⟩
  | succ l ih =>
    intro lv lo hi p ps qs g h hl h15 hhi
    have h0 := (fit_good' h.fit).2
    unfold lowM
    rw [h.node]
    dsimp only
    split
    · rename_i h2
      exact ⟨l + 1, ps, g, Nat.le_refl _, ⟨h.node, root_fit h.body h.srt h0 h15 hl hN (.inr h2), h.body, h.srt, fun q hq => Nat.le_trans (h.high q hq) hhi⟩, h15, .refl _, fun _ _ => rfl⟩
    · rename_i h2
      have h1 : ps.length = 1 := by omega
      obtain ⟨ps', q1, q2, q3, g1, g', g3, rfl, rfl, hk, k1, k3, hp15, _, _, _⟩ := h.kid hl hN 0 h0
      have hd : ps.drop (0 + 1) = [] := List.drop_eq_nil_iff.2 (by omega)
      rw [hd] at k3
      obtain ⟨rfl, rfl⟩ := k3
      obtain ⟨rfl, rfl⟩ : q1 = [] ∧ g1 = [] := by simpa [Kids] using k1
      simp only [List.nil_append, List.append_nil]
      have hho : highOf ps 0 hi = hi := by unfold highOf; rw [if_neg (by omega)]
      rw [hho] at hk
      obtain ⟨l', ps2, g2, r1, r2, r3, r4, _⟩ := ih hk (by omega) hp15 hhi
      exact ⟨l', ps2, g2, by omega, r2, r3, r4.trans (List.sublist_cons_self _ _), fun _ e => by omega⟩

theorem phi_sub {N : List Nd} {a b : List Nat} (h : List.Sublist a b) : phi N a ≤ phi N b := by
  induction h with
  | slnil => exact Nat.le_refl _
  | cons p _ ih => rw [phi_cons]; omega
  | cons_cons p _ ih => rw [phi_cons, phi_cons]; omega

/-- A lead to a kid that is all that a root has. -/
theorem kid_lead {N : List Nd} (hN : N.length ≤ 511) {l : Nat} {l1 qs : Pairs} {g : List Nat} (h : Kids (Snd N l) l1 qs g) (h1 : l1.length = 1) (hl : l ≤ 7) (hs : Srt qs) (hh : ∀ q ∈ qs, q.1 ≤ topH) :
    ∃ ps g', SndL N false (l : Int) (keyAt l1 0) topH l (valAt l1 0) ps qs g' ∧ ps.length ≤ 15 ∧ g = valAt l1 0 :: g' := by
  have hk := (h.pos (by omega)).2
  obtain ⟨ps, g', n1, n2, n3, n4, rfl⟩ := snd_iff.1 (kids_single h h1)
  obtain ⟨b1, b2⟩ := body_pos n4 n2
  refine ⟨ps, g', ⟨n1, ⟨body_good n4 hs n2 n3 hl hN, n2, rfl, ?_, ?_⟩, n4, hs, hh⟩, n3, rfl⟩
  · rw [← b2, hk]
  · obtain ⟨v, hv⟩ := keyAt_mem (show ps.length - 1 < ps.length by omega)
    obtain ⟨q, hq, e⟩ := body_key n4 _ hv
    have := hh q hq
    rw [e] at this
    exact this

/-- What is lowered. -/
def LowOk (N : List Nd) (lv : Nat) (l : Pairs) : Prop := 0 < lv → l.length = 1 → valAt l 0 ≤ 511 ∧ ∃ ps qs g, SndL N false ((lv - 1 : Nat) : Int) (keyAt l 0) (highOf l 0 topH) (lv - 1) (valAt l 0) ps qs g ∧ ps.length ≤ 15

/-- What Drop leaves. -/
theorem drop_ok {N : List Nd} (hN : N.length ≤ 511) {c root l k : Nat} {qs : Pairs} {g : List Nat} (hc : c ≤ 511) (h : TreeG N root l qs g) :
    ∃ ws, DescW N k root ws ∧ ws.length = l + 1 ∧ (∃ z, ws.getLast? = some z ∧ LastS N k qs z) ∧ (∀ l1 N1, climbM c ws [] N = (some l1, N1) → LowOk N1 (lvOf ws) l1) ∧ ∀ o N', dropM c ws N = (o, N') → ∃ M, N' = N ++ M ∧ M.length ≤ 2 * l + 1 ∧ N'.length ≤ max c N.length ∧
      ∀ r, o = some r → ∃ l' g', TreeG N' r l' (chg [] k qs) g' ∧ PgR N.length N'.length g g' ∧ l' ≤ l ∧ phi N' g' ≤ phi N g := by
  have hs2 : Srt (chg [] k qs) := srt_chg h.srt .nil (by intro p hp; cases hp)
  have hh2 := chg_le (k := k) (v := 0) (xs := []) h.le (by intro p hp; cases hp)
  rcases h with ⟨rfl, rfl, rfl, rfl⟩ | ⟨ps, g', h, h7, h15, rfl⟩
  · refine ⟨[⟨0, [], 0, 0⟩], .inl ⟨rfl, rfl⟩, rfl, ⟨_, rfl, rfl, rfl, rfl, .nil, fun v => by simp, by simp⟩, ?_⟩
    refine ⟨fun l1 N1 _ h0 => absurd h0 (by simp [lvOf]), ?_⟩
    intro o N' e
    simp only [dropM, climbM, withM, pileM] at e
    have : ¬ (0 < lvOf [⟨0, [], 0, 0⟩] ∧ ((([] : Pairs).take 0 ++ [] ++ ([] : Pairs).drop 0).length = 1)) := by simp
    rw [if_neg this, if_pos (by simp)] at e
    obtain ⟨rfl, rfl⟩ := Prod.mk.inj e
    refine ⟨[], by simp, by simp, by omega, ?_⟩
    intro r e
    obtain rfl := Option.some.inj e
    exact ⟨0, [], .inl ⟨rfl, by simp [chg], rfl, rfl⟩, PgR.refl _ _, Nat.le_refl _, Nat.le_refl _⟩
  · obtain ⟨ws, s, hw, hwl, hws, hslv, hsps, hz, hcl⟩ := climb_ok hN k h h7 h15
    have hlv : lvOf ws = l := by
      unfold lvOf
      cases ws with
      | nil => cases hwl
      | cons t r => simp at hws; simp [hws, hslv]
    refine ⟨ws, .inr hw, hwl, hz, ?_, ?_⟩
    · intro l1 N1 hc1 h0 h1
      rw [hlv] at h0 ⊢
      obtain ⟨M1, rfl, m1, m2, m3⟩ := hcl c [] (by simp) (by intro p hp; cases hp) (some l1) N1 hc1
      obtain ⟨ga, b1, b2, b3, b4, b5⟩ := m3 l1 rfl
      have hN1 : (N ++ M1).length ≤ 511 := by omega
      obtain ⟨l, rfl⟩ : ∃ l', l = l' + 1 := ⟨l - 1, by omega⟩
      obtain ⟨ps2, g2, k1, k2, rfl⟩ := kid_lead hN1 b1 h1 (by omega) hs2 hh2
      rw [Nat.add_sub_cancel, show highOf l1 0 topH = topH by unfold highOf; rw [if_neg (by omega)]]
      have hpg := nodeOf_le k1.node
      exact ⟨by omega, ps2, _, g2, k1, k2⟩
    intro o N' e
    unfold dropM at e
    cases hc1 : climbM c ws [] N with
    | mk o1 N1 =>
      rw [hc1] at e
      obtain ⟨M1, rfl, m1, m2, m3⟩ := hcl c [] (by simp) (by intro p hp; cases hp) o1 N1 hc1
      cases o1 with
      | none =>
        obtain ⟨rfl, rfl⟩ := Prod.mk.inj e
        exact ⟨M1, rfl, by omega, m2, by intro r h; cases h⟩
      | some l1 =>
        obtain ⟨ga, b1, b2, b3, b4, b5⟩ := m3 l1 rfl
        have hphi := phi_node h.node (fit_good' h.fit).2 h.body
        simp only [List.length_nil, Nat.add_zero] at b3 b5
        dsimp only at e
        rw [hlv] at e
        have hpg : PgR N.length (N ++ M1).length (root :: g') ga := b2.cons root
        have hN1 : (N ++ M1).length ≤ 511 := by omega
        split at e
        · rename_i hlow
          obtain ⟨rfl, rfl⟩ := Prod.mk.inj e
          obtain ⟨l, rfl⟩ : ∃ l', l = l' + 1 := ⟨l - 1, by omega⟩
          refine ⟨M1, rfl, by omega, m2, ?_⟩
          intro r e
          obtain rfl := Option.some.inj e
          obtain ⟨ps2, g2, k1, k2, rfl⟩ := kid_lead hN1 b1 hlow.2 (by omega) hs2 hh2
          obtain ⟨l', ps3, g3, r1, r2, r3, r4, _⟩ := low_ok hN1 k1 (by omega) k2 (Nat.le_refl _)
          rw [Nat.add_sub_cancel]
          refine ⟨l', _, .inr ⟨ps3, g3, r2, by omega, r3, rfl⟩, ?_, by omega, ?_⟩
          · refine hpg.trans (m := (N ++ M1).length) ⟨_, [], ?_, r4, .nil, by intro x hx; cases hx⟩ (by simp) (Nat.le_refl _)
            simp
          · have := phi_sub (N := N ++ M1) r4
            have e5 : phiB (N ++ M1) (l + 1) l1 (valAt l1 0 :: g2) = phi (N ++ M1) (valAt l1 0 :: g2) := by unfold phiB; rw [if_neg (by omega)]
            omega
        · rename_i hlow
          rcases Nat.eq_zero_or_pos l1.length with h0 | h0
          · unfold pileM at e
            rw [if_pos h0] at e
            obtain ⟨rfl, rfl⟩ := Prod.mk.inj e
            refine ⟨M1, rfl, by omega, m2, ?_⟩
            intro r e
            obtain rfl := Option.some.inj e
            have hnil : l1 = [] := List.length_eq_zero_iff.1 h0
            subst hnil
            have hq : chg [] k qs = [] ∧ ga = [] := by
              cases l with
              | zero => exact ⟨b1.1.symm, b1.2⟩
              | succ l => exact b1
            refine ⟨0, [], .inl ⟨rfl, hq.1, rfl, rfl⟩, ?_, by omega, by simp [phi]⟩
            rw [hq.2] at hpg
            exact hpg
          · obtain ⟨M3, rfl, r1, r2⟩ := pile_ok hc (l1.length + 1) l l1 _ ga _ 0 b1 hN1 h0 (by omega) (by omega) (by simp; omega) (by omega) hs2 hh2 o N' e
            have hM3 : M3.length ≤ 1 := by
              cases o with
              | none =>
                have hp1 : partsOf 15 l1.length = 1 := by unfold partsOf; omega
                unfold pileM at e
                rw [if_neg (by omega)] at e
                unfold nodesM at e
                rw [hp1] at e
                split at e
                · rename_i heq
                  split at heq
                  · cases heq
                  · rename_i hno
                    obtain ⟨_, e3⟩ := Prod.mk.inj e
                    obtain ⟨_, e2⟩ := Prod.mk.inj heq
                    have : (N ++ M1 ++ M3).length = (N ++ M1).length + (c - (N ++ M1).length) := by
                      rw [← e3, ← e2, List.length_append, nodesOf_length]
                    rw [List.length_append] at this
                    omega
                · rename_i heq
                  split at heq
                  · obtain ⟨e1, _⟩ := Prod.mk.inj heq
                    obtain rfl := Option.some.inj e1
                    rw [leadsOf_length] at e
                    simp at e
                  · cases heq
              | some r =>
                obtain ⟨_, _, _, _, _, t⟩ := r2 r rfl
                exact Nat.le_of_eq (t (by omega)).2.2
            refine ⟨M1 ++ M3, by simp, by simp; omega, by omega, ?_⟩
            intro r hr
            obtain ⟨lv', g2, s1, s2, s3, s4⟩ := r2 r hr
            obtain ⟨s5, s6, _⟩ := s4 (by omega)
            refine ⟨lv', g2, s2, hpg.trans s3 (by simp) (by simp), by omega, ?_⟩
            rw [s6]
            omega

/-- What stands at a key, by its leaf. -/
theorem last_has {N : List Nd} {k : Nat} {qs : Pairs} {s : Stp} (h : LastS N k qs s) : (s.fr = s.to → ∀ v, (k, v) ∉ qs) ∧ (s.fr ≠ s.to → s.fr < s.ps.length ∧ s.to = s.fr + 1 ∧ (k, valAt s.ps s.fr) ∈ qs) := by
  obtain ⟨h1, h2, h3, h4, h5, h6⟩ := h
  have hto := toOf_le h4 k
  constructor
  · intro e v hv
    have hv := (h5 v).1 hv
    have : hasK s.ps k = true := by
      unfold hasK
      rw [List.any_eq_true]
      exact ⟨_, hv, by simp⟩
    rw [h2, h3] at e
    unfold toOf at e
    rw [if_pos this] at e
    omega
  · intro e
    rw [h2, h3] at e ⊢
    have hk : hasK s.ps k = true := by
      cases hb : hasK s.ps k with
      | true => rfl
      | false => exfalso; apply e; unfold toOf; rw [hb]; rfl
    have ht : toOf s.ps k = belowK s.ps k + 1 := by unfold toOf; rw [if_pos hk]
    have hlt : belowK s.ps k < s.ps.length := by omega
    refine ⟨hlt, ht, (h5 _).2 ?_⟩
    -- the pair at belowK has the key
    unfold hasK at hk
    rw [List.any_eq_true] at hk
    obtain ⟨p, hp, e1⟩ := hk
    have e1 : p.1 = k := by simpa using e1
    obtain ⟨i, hi, rfl⟩ := List.getElem_of_mem hp
    have hb : belowK s.ps k = i := by
      refine below_at ((rises_srt _).2 h4) (Nat.le_of_lt hi) (fun j hj => ?_) (fun _ => ?_)
      · have := rises_lt ((rises_srt _).2 h4) hj hi
        rw [keyAt_get hi, e1] at this
        exact this
      · rw [keyAt_get hi, e1]
        exact Nat.le_refl _
    rw [hb, valAt_get hi, ← e1]
    exact hp

end Go.Proofs.Ytdbanlifneomgaa
