import Derived.Test.YtdbanlifneomgaaTm8L
/- Trees: ways, nodes that are added, what climbs. Of no program. -/
set_option linter.unusedVariables false
namespace Go.Proofs.Ytdbanlifneomgaa
open Go.RowKit

theorem body_split {N : List Nd} {l : Nat} {a b qs : Pairs} {pg : List Nat} (h : Body N l (a ++ b) qs pg) : ∃ qa qb ga gb, qs = qa ++ qb ∧ pg = ga ++ gb ∧ Body N l a qa ga ∧ Body N l b qb gb := by
  cases l with
  | zero => obtain ⟨rfl, rfl⟩ := h; exact ⟨a, b, [], [], rfl, rfl, ⟨rfl, rfl⟩, ⟨rfl, rfl⟩⟩
  | succ l => exact Kids.split h
theorem body_append {N : List Nd} {l : Nat} {a b qa qb : Pairs} {ga gb : List Nat} (h : Body N l a qa ga) (k : Body N l b qb gb) : Body N l (a ++ b) (qa ++ qb) (ga ++ gb) := by
  cases l with
  | zero => obtain ⟨rfl, rfl⟩ := h; obtain ⟨rfl, rfl⟩ := k; exact ⟨rfl, rfl⟩
  | succ l => exact Kids.append h k

/-- A sound tree below a lead. -/
structure SndL (N : List Nd) (root : Bool) (lv : Int) (lo hi : Nat) (l p : Nat) (ps qs : Pairs) (g : List Nat) : Prop where
  node : nodeOf N p = some (l, ps)
  fit : FitOk root lv lo hi l ps
  body : Body N l ps qs g
  srt : Srt qs
  high : ∀ q ∈ qs, q.1 ≤ hi

theorem fit_good' {root : Bool} {lv : Int} {lo hi L : Nat} {ps : Pairs} (h : FitOk root lv lo hi L ps) : goodN (L : Int) ps = true ∧ 0 < ps.length := by
  cases root with
  | true => exact ⟨h.1, h.2.1⟩
  | false => exact ⟨h.1, h.2.1⟩

theorem keyAt_mem {ps : Pairs} {i : Nat} (h : i < ps.length) : ∃ v, (keyAt ps i, v) ∈ ps := ⟨ps[i].2, by rw [keyAt_get h]; exact List.getElem_mem h⟩

/-- A node of a sound tree can be. -/
theorem body_good {N : List Nd} {l : Nat} {ps qs : Pairs} {g : List Nat} (h : Body N l ps qs g) (hs : Srt qs) (h0 : 0 < ps.length) (h1 : ps.length ≤ 15) (hl : l ≤ 7) (hN : N.length ≤ 511) : goodN (l : Int) ps = true := by
  have hr := (rises_srt ps).2 (body_srt h hs)
  unfold goodN countOk
  simp only [Bool.and_eq_true, Bool.or_eq_true, decide_eq_true_eq]
  refine ⟨⟨⟨⟨⟨by omega, by omega⟩, h1⟩, .inr h0⟩, hr⟩, ?_⟩
  cases l with
  | zero => exact .inl rfl
  | succ l =>
    refine .inr ?_
    have h : Kids (Snd N l) ps qs g := h
    clear hs hr h0 h1
    unfold pagesOk
    rw [List.all_eq_true]
    intro p hp
    have : ∀ {ps qs : Pairs} {g : List Nat}, Kids (Snd N l) ps qs g → ∀ p ∈ ps, 1 ≤ p.2 ∧ p.2 ≤ 511 := by
      intro ps
      induction ps with
      | nil => intro qs g _ p hp; cases hp
      | cons kv r ih =>
        rintro qs g ⟨q1, q2, g1, g2, rfl, rfl, h1, h2, h3, h4⟩ p hp
        rcases List.mem_cons.1 hp with rfl | hp
        · have := snd_page h1; omega
        · exact ih h4 p hp
    have := this h p hp
    simpa using this

theorem split_at (ps : Pairs) (i : Nat) (hi : i < ps.length) : ps = ps.take i ++ (keyAt ps i, valAt ps i) :: ps.drop (i + 1) := by
  rw [keyAt_get hi, valAt_get hi]
  exact (List.take_append_drop i ps).symm.trans (by rw [List.drop_eq_getElem_cons hi])

theorem keyAt_drop (ps : Pairs) (i : Nat) : keyAt (ps.drop i) 0 = keyAt ps i := by
  unfold keyAt
  simp [List.getD_eq_getElem?_getD]

theorem srt_le {a b c : Pairs} (h : Srt (a ++ b ++ c)) : (∀ p ∈ a, ∀ q ∈ b, p.1 < q.1) ∧ (∀ p ∈ b, ∀ q ∈ c, p.1 < q.1) ∧ (∀ p ∈ a, ∀ q ∈ c, p.1 < q.1) ∧ Srt a ∧ Srt b ∧ Srt c := by
  obtain ⟨h1, h2, h3⟩ := List.pairwise_append.1 h
  obtain ⟨h4, h5, h6⟩ := List.pairwise_append.1 h1
  exact ⟨h6, fun p hp => h3 p (List.mem_append_right _ hp), fun p hp => h3 p (List.mem_append_left _ hp), h4, h5, h2⟩

theorem srt_first {qs : Pairs} (h : Srt qs) : ∀ q ∈ qs, keyAt qs 0 ≤ q.1 := by
  intro q hq
  cases qs with
  | nil => cases hq
  | cons p r =>
    rcases List.mem_cons.1 hq with rfl | hq
    · exact Nat.le_refl _
    · exact Nat.le_of_lt ((List.pairwise_cons.1 h).1 q hq)

/-- The subtree of one of a node's pairs. -/
theorem SndL.kid {N : List Nd} {root : Bool} {lv : Int} {lo hi l p : Nat} {ps qs : Pairs} {g : List Nat} (h : SndL N root lv lo hi (l + 1) p ps qs g) (hl : l + 1 ≤ 7) (hN : N.length ≤ 511) (i : Nat) (hi' : i < ps.length) :
    ∃ ps' q1 q2 q3 g1 g' g3, qs = q1 ++ q2 ++ q3 ∧ g = g1 ++ (valAt ps i :: g') ++ g3 ∧ SndL N false (l : Int) (keyAt ps i) (highOf ps i hi) l (valAt ps i) ps' q2 g' ∧
      Kids (Snd N l) (ps.take i) q1 g1 ∧ Kids (Snd N l) (ps.drop (i + 1)) q3 g3 ∧ ps'.length ≤ 15 ∧ (∀ q ∈ q3, keyAt ps (i + 1) ≤ q.1) ∧ (∀ q ∈ q2, keyAt ps i ≤ q.1) ∧ Snd N l (valAt ps i) q2 (valAt ps i :: g') := by
  have hb : Kids (Snd N l) ps qs g := h.body
  rw [split_at ps i hi'] at hb
  obtain ⟨q1, qb, g1, gb, rfl, rfl, k1, q2, q3, g2, g3, rfl, rfl, s1, s2, s3, k3⟩ := hb.split
  obtain ⟨ps', g', n1, n2, n3, n4, rfl⟩ := snd_iff.1 s1
  have hs : Srt (q1 ++ q2 ++ q3) := by rw [List.append_assoc]; exact h.srt
  obtain ⟨t1, t2, t3, t4, t5, t6⟩ := srt_le hs
  have hh : ∀ q ∈ q2, q.1 ≤ highOf ps i hi := by
    intro q hq
    unfold highOf
    split
    · rename_i hlt
      obtain ⟨r1, r2⟩ := k3.pos (by rw [List.length_drop]; omega)
      rw [keyAt_drop] at r2
      obtain ⟨v, hv⟩ := keyAt_mem r1
      have := t2 q hq _ hv
      rw [r2] at this
      omega
    · exact h.high q (by simp [hq])
  obtain ⟨b1, b2⟩ := body_pos n4 n2
  refine ⟨ps', q1, q2, q3, g1, g', g3, by simp, by simp, ⟨n1, ⟨body_good n4 t5 n2 n3 (by omega) hN, n2, rfl, ?_, ?_⟩, n4, t5, hh⟩, k1, k3, n3, ?_, ?_, s1⟩
  · rw [← b2]; exact s3
  · have hm : ps'.length - 1 < ps'.length := by omega
    obtain ⟨v, hv⟩ := keyAt_mem hm
    obtain ⟨q, hq, e⟩ := body_key n4 _ hv
    have := hh q hq
    rw [e] at this
    exact this
  · intro q hq
    have hd : 0 < (ps.drop (i + 1)).length := by
      rcases Nat.eq_zero_or_pos (ps.drop (i + 1)).length with e | e
      · have : ps.drop (i + 1) = [] := List.length_eq_zero_iff.1 e
        rw [this] at k3
        obtain ⟨rfl, _⟩ := k3
        cases hq
      · exact e
    obtain ⟨r1, r2⟩ := k3.pos hd
    rw [keyAt_drop] at r2
    rw [← r2]
    exact srt_first t6 q hq
  · intro q hq
    have := srt_first t5 q hq
    rw [s3] at this
    exact this

/-- Which kid a key belongs to. -/
theorem kid_sides {ps : Pairs} (hr : Srt ps) (k : Nat) (h0 : 0 < ps.length) : (0 < kidOf ps k → keyAt ps (kidOf ps k) ≤ k) ∧ (kidOf ps k + 1 < ps.length → k < keyAt ps (kidOf ps k + 1)) := by
  have hr' := (rises_srt ps).2 hr
  have hu : uptoK ps k ≤ ps.length := List.countP_le_length
  have key : ∀ j, j < ps.length → (j < uptoK ps k ↔ keyAt ps j ≤ k) := by
    intro j hj
    have e : uptoK ps k = (ps.filter fun p => decide (p.1 ≤ k)).length := List.countP_eq_length_filter
    have split : ∃ a b, ps = a ++ b ∧ (∀ p ∈ a, p.1 ≤ k) ∧ ∀ p ∈ b, k < p.1 := by
      clear e hj hu hr' h0
      induction ps with
      | nil => exact ⟨[], [], rfl, (by intro p hp; cases hp), (by intro p hp; cases hp)⟩
      | cons x r ih =>
        obtain ⟨h1, h2⟩ := List.pairwise_cons.1 hr
        by_cases hx : x.1 ≤ k
        · obtain ⟨a, b, e, ha, hb⟩ := ih h2
          refine ⟨x :: a, b, by rw [e]; rfl, ?_, hb⟩
          intro p hp
          rcases List.mem_cons.1 hp with rfl | hp
          · exact hx
          · exact ha p hp
        · refine ⟨[], x :: r, rfl, (by intro p hp; cases hp), ?_⟩
          intro p hp
          rcases List.mem_cons.1 hp with rfl | hp
          · omega
          · have := h1 p hp; omega
    obtain ⟨a, b, e2, ha, hb⟩ := split
    have eu : uptoK ps k = a.length := by
      unfold uptoK
      rw [e2, List.countP_append]
      have c1 : a.countP (fun p => decide (p.1 ≤ k)) = a.length := by
        rw [List.countP_eq_length]; intro p hp; simpa using ha p hp
      have c2 : b.countP (fun p => decide (p.1 ≤ k)) = 0 := by
        rw [List.countP_eq_zero]; intro p hp; have := hb p hp; simp; omega
      omega
    rw [eu, keyAt_get hj]
    constructor
    · intro hlt
      have : ps[j] ∈ a := by
        have : ps[j] = a[j] := by simp [e2, List.getElem_append_left hlt]
        rw [this]; exact List.getElem_mem hlt
      exact ha _ this
    · intro hle
      rcases Nat.lt_or_ge j a.length with h' | h'
      · exact h'
      · have hjb : j - a.length < b.length := by rw [e2, List.length_append] at hj; omega
        have : ps[j] ∈ b := by
          have : ps[j] = b[j - a.length] := by simp [e2, List.getElem_append_right h']
          rw [this]; exact List.getElem_mem hjb
        have := hb _ this
        omega
  unfold kidOf
  constructor
  · intro h
    exact (key _ (by omega)).1 (by omega)
  · intro h
    have := (key _ h)
    rcases Nat.lt_or_ge k (keyAt ps (uptoK ps k - 1 + 1)) with h' | h'
    · exact h'
    · have := this.2 h'
      omega

/-- The nodes that so many pairs each make, and what leads there. -/
def nodesOf (lv m : Nat) (l : Pairs) (k : Nat) : List Nd := (List.range k).map fun j => (lv, (l.drop (m * j)).take m)
def leadsOf (n m : Nat) (l : Pairs) (k : Nat) : Pairs := (List.range k).map fun j => (keyAt l (m * j), n + j + 1)
def partsOf (m n : Nat) : Nat := (n + m - 1) / m
theorem nodesOf_length (lv m : Nat) (l : Pairs) (k : Nat) : (nodesOf lv m l k).length = k := by simp [nodesOf]
theorem leadsOf_length (n m : Nat) (l : Pairs) (k : Nat) : (leadsOf n m l k).length = k := by simp [leadsOf]
theorem nodesOf_succ (lv m : Nat) (l : Pairs) (k : Nat) : nodesOf lv m l (k + 1) = nodesOf lv m l k ++ [(lv, (l.drop (m * k)).take m)] := by simp [nodesOf, List.range_succ]
theorem leadsOf_succ (n m : Nat) (l : Pairs) (k : Nat) : leadsOf n m l (k + 1) = leadsOf n m l k ++ [(keyAt l (m * k), n + k + 1)] := by simp [leadsOf, List.range_succ]
theorem parts_lt {m n j : Nat} (hm : 0 < m) : j < partsOf m n ↔ m * j < n := by
  unfold partsOf
  rw [Nat.lt_iff_add_one_le, Nat.le_div_iff_mul_le hm, Nat.mul_comm (j + 1) m, Nat.mul_add]
  omega

/-- So many new pages beside some of the old ones. -/
def PgR (n n' : Nat) (g g' : List Nat) : Prop := ∃ h f, List.Perm g' (h ++ f) ∧ List.Sublist h g ∧ f.Nodup ∧ ∀ x ∈ f, n < x ∧ x ≤ n'
theorem PgR.refl (n : Nat) (g : List Nat) : PgR n n g g := ⟨g, [], by simp, .refl g, .nil, fun x h => by cases h⟩
theorem PgR.nodup {n n' : Nat} {g g' : List Nat} (h : PgR n n' g g') (hg : g.Nodup) (hn : ∀ x ∈ g, x ≤ n) : g'.Nodup := by
  obtain ⟨h, f, h1, h2, h3, h4⟩ := h
  rw [h1.nodup_iff, List.nodup_append]
  refine ⟨h2.nodup hg, h3, fun a ha b hb e => ?_⟩
  subst e
  have := hn a (h2.mem ha)
  have := h4 a hb
  omega
theorem PgR.mem {n n' : Nat} {g g' : List Nat} (h : PgR n n' g g') : ∀ x ∈ g', x ∈ g ∨ (n < x ∧ x ≤ n') := by
  obtain ⟨h, f, h1, h2, h3, h4⟩ := h
  intro x hx
  rcases List.mem_append.1 (h1.mem_iff.1 hx) with hx | hx
  · exact .inl (h2.mem hx)
  · exact .inr (h4 x hx)
theorem PgR.mid {n n' : Nat} {g g' : List Nat} (h : PgR n n' g g') (a b : List Nat) : PgR n n' (a ++ g ++ b) (a ++ g' ++ b) := by
  obtain ⟨h, f, h1, h2, h3, h4⟩ := h
  refine ⟨a ++ h ++ b, f, ?_, (List.Sublist.append (List.Sublist.append (.refl a) h2) (.refl b)), h3, h4⟩
  have : List.Perm (a ++ g' ++ b) (a ++ (h ++ f) ++ b) := (h1.append_left a).append_right b
  refine this.trans ?_
  rw [List.append_assoc, List.append_assoc, List.append_assoc, List.append_assoc]
  exact ((List.perm_append_comm).append_left h).append_left a
theorem PgR.cons {n n' : Nat} {g g' : List Nat} (h : PgR n n' g g') (p : Nat) : PgR n n' (p :: g) g' := by
  obtain ⟨h, f, h1, h2, h3, h4⟩ := h
  exact ⟨h, f, h1, .cons p h2, h3, h4⟩
theorem PgR.trans {n m n' : Nat} {g g1 g2 : List Nat} (h : PgR n m g g1) (k : PgR m n' g1 g2) (hnm : n ≤ m) (hmn : m ≤ n') : PgR n n' g g2 := by
  obtain ⟨h, f, h1, h2, h3, h4⟩ := h
  obtain ⟨h', f', k1, k2, k3, k4⟩ := k
  obtain ⟨z, hz1, hz2⟩ := List.exists_perm_sublist k2 h1
  obtain ⟨za, zb, rfl, hza, hzb⟩ := List.sublist_append_iff.1 hz2
  refine ⟨za, zb ++ f', ?_, hza.trans h2, ?_, ?_⟩
  · rw [← List.append_assoc]
    exact k1.trans (hz1.symm.append_right f')
  · rw [List.nodup_append]
    refine ⟨hzb.nodup h3, k3, fun a ha b hb e => ?_⟩
    subst e
    have := h4 a (hzb.mem ha)
    have := k4 a hb
    omega
  · intro x hx
    rcases List.mem_append.1 hx with hx | hx
    · have := h4 x (hzb.mem hx); omega
    · have := k4 x hx; omega
theorem PgR.app {n m n' : Nat} {a b a' b' : List Nat} (h : PgR n m a a') (k : PgR m n' b b') (hnm : n ≤ m) (hmn : m ≤ n') : PgR n n' (a ++ b) (a' ++ b') := by
  obtain ⟨h, f, h1, h2, h3, h4⟩ := h
  obtain ⟨h', f', k1, k2, k3, k4⟩ := k
  refine ⟨h ++ h', f ++ f', ?_, h2.append k2, ?_, ?_⟩
  · refine (h1.append k1).trans ?_
    simp only [List.append_assoc]
    refine List.Perm.append_left h ?_
    rw [← List.append_assoc, ← List.append_assoc]
    exact (List.perm_append_comm).append_right f'
  · rw [List.nodup_append]
    refine ⟨h3, k3, fun a ha b hb e => ?_⟩
    subst e
    have := h4 a ha
    have := k4 a hb
    omega
  · intro x hx
    rcases List.mem_append.1 hx with hx | hx
    · have := h4 x hx; omega
    · have := k4 x hx; omega

/-- What a page weighs: a leaf its pairs, eight at least. -/
def wt (N : List Nd) (p : Nat) : Nat := match nodeOf N p with
  | some (0, ps) => max ps.length 8
  | _ => 0
def phi (N : List Nd) (g : List Nat) : Nat := (g.map (wt N)).sum
theorem phi_append (N : List Nd) (a b : List Nat) : phi N (a ++ b) = phi N a + phi N b := by simp [phi]
theorem phi_cons (N : List Nd) (p : Nat) (b : List Nat) : phi N (p :: b) = wt N p + phi N b := by simp [phi]
theorem phi_app {N M : List Nd} {g : List Nat} (h : ∀ x ∈ g, 1 ≤ x ∧ x ≤ N.length) : phi (N ++ M) g = phi N g := by
  unfold phi
  congr 1
  refine List.map_congr_left fun x hx => ?_
  obtain ⟨h1, h2⟩ := h x hx
  unfold wt nodeOf
  rw [if_neg (by omega), if_neg (by omega), List.getElem?_append_left (by omega)]

/-- What parts weigh. -/
def partW (m : Nat) (l : Pairs) (k : Nat) : Nat := ((List.range k).map fun j => max ((l.drop (m * j)).take m).length 8).sum
theorem partW_succ (m : Nat) (l : Pairs) (k : Nat) : partW m l (k + 1) = partW m l k + max ((l.drop (m * k)).take m).length 8 := by simp [partW, List.range_succ]

theorem kids_one {N : List Nd} {lv p : Nat} {qs : Pairs} {pg : List Nat} (h : Snd N lv p qs pg) (h0 : 0 < qs.length) : Kids (Snd N lv) [(keyAt qs 0, p)] qs pg :=
  ⟨qs, [], pg, [], by simp, by simp, h, h0, rfl, rfl, rfl⟩

/-- Nodes that were added for a node's pairs. -/
theorem nodes_ok {N : List Nd} {lv m : Nat} {l qs : Pairs} {g : List Nat} (h : Body N lv l qs g) (hm : 0 < m) (hm15 : m ≤ 15) (K : Nat) (hK : K ≤ partsOf m l.length) :
    ∃ qa qb ga gb ga', qs = qa ++ qb ∧ g = ga ++ gb ∧ Body N lv (l.drop (m * K)) qb gb ∧ Kids (Snd (N ++ nodesOf lv m l K) lv) (leadsOf N.length m l K) qa ga' ∧ PgR N.length (N.length + K) ga ga' ∧
      phi (N ++ nodesOf lv m l K) ga' = (if lv = 0 then partW m l K else phi N ga) := by
  induction K with
  | zero =>
    refine ⟨[], qs, [], g, [], rfl, rfl, by simpa using h, ⟨rfl, rfl⟩, PgR.refl _ _, ?_⟩
    split <;> simp [phi, partW]
  | succ K ih =>
    obtain ⟨qa, qb, ga, gb, ga', rfl, rfl, h1, h2, h3, h4⟩ := ih (by omega)
    have hlt : m * K < l.length := (parts_lt hm).1 hK
    obtain ⟨c, hc⟩ : ∃ c, (l.drop (m * K)).take m = c := ⟨_, rfl⟩
    have hsp : l.drop (m * K) = c ++ l.drop (m * (K + 1)) := by
      rw [← hc, Nat.mul_succ, ← List.drop_drop]
      exact (List.take_append_drop m _).symm
    rw [hsp] at h1
    obtain ⟨q1, q2, g1, g2, rfl, rfl, b1, b2⟩ := body_split h1
    have hcl : 0 < c.length := by rw [← hc, List.length_take, List.length_drop]; omega
    have hcl15 : c.length ≤ 15 := by rw [← hc, List.length_take]; omega
    have hnode : nodeOf (N ++ nodesOf lv m l (K + 1)) (N.length + K + 1) = some (lv, c) := by
      unfold nodeOf
      rw [if_neg (by omega), nodesOf_succ, ← List.append_assoc, List.getElem?_append_right (by simp [nodesOf_length])]
      simp [nodesOf_length, hc]
    have hsnd : Snd (N ++ nodesOf lv m l (K + 1)) lv (N.length + K + 1) q1 ((N.length + K + 1) :: g1) := snd_iff.2 ⟨c, g1, hnode, hcl, hcl15, body_app b1, rfl⟩
    obtain ⟨p1, p2⟩ := body_pos b1 hcl
    have hk0 : keyAt q1 0 = keyAt l (m * K) := by
      rw [p2, ← keyAt_drop l (m * K), hsp]
      unfold keyAt
      simp [List.getD_eq_getElem?_getD, List.getElem?_append_left hcl]
    have hkid := kids_one hsnd p1
    rw [hk0] at hkid
    have h2' : Kids (Snd (N ++ nodesOf lv m l (K + 1)) lv) (leadsOf N.length m l K) qa ga' := by
      rw [nodesOf_succ, ← List.append_assoc]
      exact h2.mono fun _ _ _ => snd_app
    refine ⟨qa ++ q1, q2, ga ++ g1, g2, ga' ++ (N.length + K + 1) :: g1, by simp, by simp, b2, ?_, ?_, ?_⟩
    · rw [leadsOf_succ]
      exact h2'.append hkid
    · refine h3.app (m := N.length + K) (b := g1) (b' := (N.length + K + 1) :: g1) ?_ (by omega) (by omega)
      exact ⟨g1, [N.length + K + 1], List.perm_append_comm (l₁ := [N.length + K + 1]), .refl g1, by simp, by simp; omega⟩
    · have hb : ∀ x ∈ ga', 1 ≤ x ∧ x ≤ (N ++ nodesOf lv m l K).length := kids_pages (fun _ _ _ => snd_pages) h2
      have e1 : phi (N ++ nodesOf lv m l (K + 1)) ga' = phi (N ++ nodesOf lv m l K) ga' := by
        rw [nodesOf_succ, ← List.append_assoc]
        exact phi_app hb
      have e2 : phi (N ++ nodesOf lv m l (K + 1)) g1 = phi N g1 := phi_app (body_pages b1)
      have e3 : wt (N ++ nodesOf lv m l (K + 1)) (N.length + K + 1) = if lv = 0 then max c.length 8 else 0 := by
        unfold wt
        rw [hnode]
        cases lv with
        | zero => rfl
        | succ lv => rfl
      rw [phi_append, phi_cons, e1, e2, e3, h4]
      by_cases hlv : lv = 0
      · subst hlv
        obtain ⟨_, rfl⟩ := b1
        rw [if_pos rfl, if_pos rfl, if_pos rfl, partW_succ, hc]
        simp [phi]
      · rw [if_neg hlv, if_neg hlv, if_neg hlv, phi_append]
        omega

end Go.Proofs.Ytdbanlifneomgaa
