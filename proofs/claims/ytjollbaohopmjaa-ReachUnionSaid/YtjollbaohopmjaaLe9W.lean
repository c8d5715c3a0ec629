import Derived.Test.YtjollbaohopmjaaCn9W
/- Reach: which pages are led to: the mathematics of counts over sound trees. -/
set_option linter.unusedVariables false
namespace Go.Proofs.Ytjollbaohopmjaa
open Go.RowKit

/-- A pair of an inner node of these pages leads there. -/
def Led (N : List Nd) (pg : List Nat) (x : Nat) : Prop := ∃ z ∈ pg, ∃ l ps, nodeOf N z = some (l, ps) ∧ l ≠ 0 ∧ ∃ v ∈ ps, v.2 = x
/-- What inner nodes of these pages lead to is among them. -/
def Shut (N : List Nd) (pg : List Nat) : Prop := ∀ z ∈ pg, ∀ l ps, nodeOf N z = some (l, ps) → l ≠ 0 → ∀ v ∈ ps, v.2 ∈ pg
theorem Led.mono {N : List Nd} {a b : List Nat} {x : Nat} (h : Led N a x) (hab : ∀ z ∈ a, z ∈ b) : Led N b x := by
  obtain ⟨z, hz, l, ps, h1, h2, h3⟩ := h
  exact ⟨z, hab z hz, l, ps, h1, h2, h3⟩
theorem kids_led {N : List Nd} {S : Nat → Pairs → List Nat → Prop} (hS : ∀ v q g, S v q g → v ∈ g ∧ (∀ x ∈ g, x = v ∨ Led N g x) ∧ Shut N g) : ∀ {ps qs : Pairs} {pg : List Nat}, Kids S ps qs pg → (∀ v ∈ ps, v.2 ∈ pg) ∧ (∀ x ∈ pg, (∃ v ∈ ps, v.2 = x) ∨ Led N pg x) ∧ Shut N pg := by
  intro ps
  induction ps with
  | nil =>
    rintro qs pg ⟨_, rfl⟩
    exact ⟨(fun v h => by cases h), (fun x h => by cases h), fun z h => by cases h⟩
  | cons kv r ih =>
    rintro qs pg ⟨q1, q2, g1, g2, rfl, rfl, h1, h2, h3, h4⟩
    obtain ⟨a1, a2, a3⟩ := hS _ _ _ h1
    obtain ⟨b1, b2, b3⟩ := ih h4
    refine ⟨fun v hv => ?_, fun x hx => ?_, fun z hz l ps hn hl v hv => ?_⟩
    · rcases List.mem_cons.1 hv with rfl | hv
      · exact List.mem_append_left _ a1
      · exact List.mem_append_right _ (b1 v hv)
    · rcases List.mem_append.1 hx with hx | hx
      · rcases a2 x hx with rfl | h
        · exact .inl ⟨kv, List.mem_cons_self, rfl⟩
        · exact .inr (h.mono fun z hz => List.mem_append_left _ hz)
      · rcases b2 x hx with ⟨v, hv, e⟩ | h
        · exact .inl ⟨v, List.mem_cons_of_mem _ hv, e⟩
        · exact .inr (h.mono fun z hz => List.mem_append_right _ hz)
    · rcases List.mem_append.1 hz with hz | hz
      · exact List.mem_append_left _ (a3 z hz l ps hn hl v hv)
      · exact List.mem_append_right _ (b3 z hz l ps hn hl v hv)
theorem body_led {N : List Nd} {l p : Nat} {ps qs : Pairs} {g : List Nat} (hn : nodeOf N p = some (l, ps)) (hb : (l = 0 ∧ g = []) ∨ (l ≠ 0 ∧ (∀ v ∈ ps, v.2 ∈ g) ∧ (∀ x ∈ g, (∃ v ∈ ps, v.2 = x) ∨ Led N g x) ∧ Shut N g)) :
    p ∈ p :: g ∧ (∀ x ∈ p :: g, x = p ∨ Led N (p :: g) x) ∧ Shut N (p :: g) := by
  refine ⟨List.mem_cons_self, fun x hx => ?_, fun z hz l' ps' hn' hl' v hv => ?_⟩
  · rcases List.mem_cons.1 hx with h | hx
    · exact .inl h
    · rcases hb with ⟨_, rfl⟩ | ⟨hl, h1, h2, h3⟩
      · cases hx
      · rcases h2 x hx with ⟨v, hv, e⟩ | h
        · exact .inr ⟨p, List.mem_cons_self, l, ps, hn, hl, v, hv, e⟩
        · exact .inr (h.mono fun z hz => List.mem_cons_of_mem _ hz)
  · rcases List.mem_cons.1 hz with rfl | hz
    · rw [hn] at hn'
      cases hn'
      rcases hb with ⟨h0, _⟩ | ⟨hl, h1, h2, h3⟩
      · exact absurd h0 hl'
      · exact List.mem_cons_of_mem _ (h1 v hv)
    · rcases hb with ⟨_, rfl⟩ | ⟨hl, h1, h2, h3⟩
      · cases hz
      · exact List.mem_cons_of_mem _ (h3 z hz l' ps' hn' hl' v hv)
theorem snd_led {N : List Nd} : ∀ {l p : Nat} {qs : Pairs} {pg : List Nat}, Snd N l p qs pg → p ∈ pg ∧ (∀ x ∈ pg, x = p ∨ Led N pg x) ∧ Shut N pg := by
  intro l
  induction l with
  | zero =>
    rintro p qs pg ⟨h1, h2, h3, rfl⟩
    exact body_led (qs := qs) h1 (.inl ⟨rfl, rfl⟩)
  | succ l ih =>
    rintro p qs pg ⟨ps, g, h1, h2, h3, h4, rfl⟩
    exact body_led (qs := qs) h1 (.inr ⟨by omega, kids_led (fun v q g h => ih h) h4⟩)
/-- A tree's pages: its root, and what is led to. -/
theorem tree_led {N : List Nd} {root l : Nat} {qs : Pairs} {g : List Nat} (h : TreeG N root l qs g) : (root ≠ 0 → root ∈ g) ∧ (∀ x ∈ g, (x = root ∧ root ≠ 0) ∨ Led N g x) ∧ Shut N g := by
  rcases h with ⟨rfl, _, rfl, _⟩ | ⟨ps, g', hS, h7, h15, rfl⟩
  · exact ⟨fun h => absurd rfl h, (fun x h => by cases h), fun z h => by cases h⟩
  · have hp := nodeOf_le hS.node
    have hb : (l = 0 ∧ g' = []) ∨ (l ≠ 0 ∧ (∀ v ∈ ps, v.2 ∈ g') ∧ (∀ x ∈ g', (∃ v ∈ ps, v.2 = x) ∨ Led N g' x) ∧ Shut N g') := by
      have hbd := hS.body
      cases l with
      | zero => exact .inl ⟨rfl, hbd.2⟩
      | succ l => exact .inr ⟨by omega, kids_led (fun v q g h => snd_led h) hbd⟩
    obtain ⟨a1, a2, a3⟩ := body_led (qs := qs) hS.node hb
    exact ⟨fun _ => a1, fun x hx => (a2 x hx).imp (fun e => ⟨e, by omega⟩) id, a3⟩

theorem vls_pos {ps : Pairs} {q : Int} : 0 < vls ps q ↔ ∃ v ∈ ps, kv9 v = q := by
  unfold vls
  rw [List.countP_pos_iff]
  simp
theorem sum_pos9 {n : Nat} {f : Nat → Nat} : 0 < ((List.range n).map f).sum ↔ ∃ i, i < n ∧ 0 < f i := by
  induction n with
  | zero => simp
  | succ n ih =>
    rw [List.range_succ, List.map_append, List.sum_append]
    simp only [List.map_cons, List.map_nil, List.sum_cons, List.sum_nil, Nat.add_zero]
    constructor
    · intro h
      by_cases h1 : 0 < f n
      · exact ⟨n, Nat.lt_succ_self _, h1⟩
      · obtain ⟨i, hi, h2⟩ := ih.1 (by omega)
        exact ⟨i, by omega, h2⟩
    · rintro ⟨i, hi, h1⟩
      rcases Nat.lt_or_ge i n with h | h
      · have := ih.2 ⟨i, h, h1⟩
        omega
      · obtain rfl : i = n := by omega
        omega
theorem cnR_pos {rs : List Int} {q : Int} : 0 < cnR rs q ↔ q ∈ rs ∧ q ≠ 0 := by
  unfold cnR
  rw [List.countP_pos_iff]
  constructor
  · rintro ⟨r, hr, h⟩
    rw [Bool.and_eq_true, beq_iff_eq, bne_iff_ne] at h
    rw [← h.1]
    exact ⟨hr, h.2⟩
  · rintro ⟨h1, h2⟩
    exact ⟨q, h1, by rw [Bool.and_eq_true, beq_iff_eq, bne_iff_ne]; exact ⟨rfl, h2⟩⟩
theorem nodeOf_mlt {N : List Nd} {z l : Nat} {ps : Pairs} (h : nodeOf N z = some (l, ps)) : ∃ i, z = i + 1 ∧ i < N.length ∧ N[i]? = some (l, ps) := by
  have hz := nodeOf_le h
  unfold nodeOf at h
  rw [if_neg (by omega)] at h
  exact ⟨z - 1, by omega, by omega, h⟩
theorem mlt_nodeOf {N : List Nd} {i : Nat} {l : Nat} {ps : Pairs} (h : N[i]? = some (l, ps)) : nodeOf N (i + 1) = some (l, ps) := by
  unfold nodeOf
  rw [if_neg (by omega)]
  exact h
theorem kv_page {N : List Nd} (hN : N.length ≤ 511) {v : Nat × Nat} (h : v.2 ≤ N.length) : kv9 v = ((v.2 : Nat) : Int) := by
  unfold kv9 wrap64
  omega

/-- What roots need: the pages of their trees. -/
theorem cnA_pos {N : List Nd} (hN : N.length ≤ 511) {rs : List Int} {G : Int → List Int} {P : Int → Bool} (hG : ∀ r ∈ rs, ∃ root l qs g, r = ((root : Nat) : Int) ∧ TreeG N root l qs g ∧ g.Nodup ∧ G r = ofP g) (hP : ∀ q, P q = true ↔ ∃ r ∈ rs, q ∈ G r) (q : Int) :
    0 < cnA N rs P q ↔ ∃ r ∈ rs, q ∈ G r := by
  have hofP : ∀ (g : List Nat) (z : Nat), ((z : Nat) : Int) ∈ ofP g ↔ z ∈ g := fun g z => by
    rw [List.mem_map]
    constructor
    · rintro ⟨a, ha, e⟩
      have : a = z := by have h2 : ((a : Nat) : Int) = (z : Int) := e; omega
      rw [← this]; exact ha
    · exact fun h => ⟨z, h, rfl⟩
  constructor
  · intro h
    unfold cnA at h
    by_cases h1 : 0 < cnR rs q
    · obtain ⟨h2, h3⟩ := cnR_pos.1 h1
      obtain ⟨root, l, qs, g, e, hT, _, hg⟩ := hG q h2
      refine ⟨q, h2, ?_⟩
      rw [hg, e, hofP]
      exact (tree_led hT).1 (by omega)
    · have h2 : 0 < cnP N P q := by omega
      unfold cnP at h2
      obtain ⟨i, hi, h3⟩ := sum_pos9.1 h2
      split at h3
      · rename_i hPi
        obtain ⟨r, hr, hir⟩ := (hP _).1 hPi
        obtain ⟨root, l, qs, g, e, hT, _, hg⟩ := hG r hr
        rw [hg, hofP] at hir
        unfold mlt at h3
        split at h3
        · rename_i nd hnd
          split at h3
          · omega
          · rename_i hl
            obtain ⟨v, hv, e2⟩ := vls_pos.1 h3
            have hvg := (tree_led hT).2.2 (i + 1) hir nd.1 nd.2 (mlt_nodeOf hnd) hl v hv
            refine ⟨r, hr, ?_⟩
            rw [← e2, kv_page hN (hT.pages _ hvg).2, hg, hofP]
            exact hvg
        · omega
      · omega
  · rintro ⟨r, hr, hq⟩
    obtain ⟨root, l, qs, g, e, hT, _, hg⟩ := hG r hr
    rw [hg] at hq
    obtain ⟨z, hz, rfl⟩ := List.mem_map.1 hq
    unfold cnA
    rcases (tree_led hT).2.1 z hz with ⟨h1, h2⟩ | ⟨y, hy, l', ps, hn, hl, v, hv, e2⟩
    · have : 0 < cnR rs (Int.ofNat z) := cnR_pos.2 ⟨by rw [h1]; show ((root : Nat) : Int) ∈ rs; rw [← e]; exact hr, by rw [h1]; show ((root : Nat) : Int) ≠ 0; omega⟩
      omega
    · obtain ⟨i, rfl, hi, hni⟩ := nodeOf_mlt hn
      have : 0 < cnP N P (Int.ofNat z) := by
        unfold cnP
        refine sum_pos9.2 ⟨i, hi, ?_⟩
        have hPi : P ((i + 1 : Nat) : Int) = true := (hP _).2 ⟨r, hr, by rw [hg, hofP]; exact hy⟩
        rw [if_pos hPi]
        unfold mlt
        rw [hni]
        simp only
        rw [if_neg hl]
        refine vls_pos.2 ⟨v, hv, ?_⟩
        rw [kv_page hN (by rw [e2]; exact (hT.pages _ hz).2), e2]
        rfl
      omega

end Go.Proofs.Ytjollbaohopmjaa
