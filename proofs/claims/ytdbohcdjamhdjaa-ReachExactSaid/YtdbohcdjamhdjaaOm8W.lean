import Derived.Test.YtdbohcdjamhdjaaV6
/- Trees: what a row of changes leaves, without memory: no error where there is room, few levels. -/
set_option linter.unusedVariables false
namespace Go.Proofs.Ytdbohcdjamhdjaa
open Go.RowKit

theorem nodesM_room {c lv m : Nat} {l : Pairs} {N N' : List Nd} (h : nodesM c lv m l N = (none, N')) : c ≤ N'.length := by
  unfold nodesM at h
  split at h
  · cases h
  · obtain ⟨_, rfl⟩ := Prod.mk.inj h
    rw [List.length_append, nodesOf_length]
    omega
theorem climbM_room {c : Nat} : ∀ {ws : List Stp} {xs : Pairs} {N N' : List Nd}, climbM c ws xs N = (none, N') → c ≤ N'.length := by
  intro ws
  induction ws with
  | nil => intro xs N N' h; unfold climbM at h; cases h
  | cons s r ih =>
    intro xs N N' h
    cases r with
    | nil => unfold climbM at h; cases h
    | cons t r =>
      unfold climbM at h
      split at h
      · rename_i N1 h1
        obtain ⟨_, rfl⟩ := Prod.mk.inj h
        exact ih h1
      · rename_i l N1 h1
        split at h
        · rename_i N2 h2
          obtain ⟨_, rfl⟩ := Prod.mk.inj h
          exact nodesM_room h2
        · cases h
theorem pileM_room {c : Nat} : ∀ {f lv : Nat} {l : Pairs} {N N' : List Nd}, pileM c f lv l N = (none, N') → c ≤ N'.length := by
  intro f
  induction f with
  | zero => intro lv l N N' h; unfold pileM at h; cases h
  | succ f ih =>
    intro lv l N N' h
    unfold pileM at h
    split at h
    · cases h
    · split at h
      · rename_i N1 h1
        obtain ⟨_, rfl⟩ := Prod.mk.inj h
        exact nodesM_room h1
      · rename_i ls N1 h1
        split at h
        · cases h
        · exact ih h
theorem putM_room {c : Nat} {ws : List Stp} {x : Nat × Nat} {N N' : List Nd} (h : putM c ws x N = (none, N')) : c ≤ N'.length := by
  unfold putM at h
  split at h
  · rename_i N1 h1
    obtain ⟨_, rfl⟩ := Prod.mk.inj h
    exact climbM_room h1
  · rename_i l N1 h1
    split at h
    · rename_i N2 h2
      obtain ⟨_, rfl⟩ := Prod.mk.inj h
      exact nodesM_room h2
    · rename_i ls N2 h2
      split at h
      · exact pileM_room h
      · cases h

/-- A tree of two levels at most, its pages once each, that weighs no more than f. -/
def TrI (N : List Nd) (root : Nat) (qs : Pairs) (f : Nat) : Prop := ∃ l g, TreeG N root l qs g ∧ g.Nodup ∧ l ≤ 1 ∧ phi N g ≤ f

theorem TrI.zero : TrI [] 0 [] 8 := ⟨0, [], .inl ⟨rfl, rfl, rfl, rfl⟩, .nil, by omega, by simp [phi]⟩
theorem TrI.mono {N : List Nd} {root f f' : Nat} {qs : Pairs} (h : TrI N root qs f) (hf : f ≤ f') : TrI N root qs f' := by
  obtain ⟨l, g, h1, h2, h3, h4⟩ := h
  exact ⟨l, g, h1, h2, h3, Nat.le_trans h4 hf⟩
theorem TrI.srt {N : List Nd} {root f : Nat} {qs : Pairs} (h : TrI N root qs f) : Srt qs := by
  obtain ⟨l, g, h1, _⟩ := h
  exact h1.srt
theorem TrI.empty {N : List Nd} {root f : Nat} (h : TrI N root [] f) : root = 0 := by
  obtain ⟨l, g, h1, _⟩ := h
  rcases h1 with ⟨h, _⟩ | ⟨ps, g', hS, _⟩
  · exact h
  · have := (body_pos hS.body (fit_good' hS.fit).2).1
    cases this

/-- A pair is put. -/
theorem TrI.put {N : List Nd} (hN : N.length ≤ 511) {c root k v f : Nat} {qs : Pairs} (hc : c ≤ 511) (h : TrI N root qs f) (hf : 8 ≤ f) (hf2 : f < 127) (hk : k ≤ topH) :
    ∃ ws, DescW N k root ws ∧ ws.length ≤ 2 ∧ ∀ o N', putM c ws (k, v) N = (o, N') → N'.length ≤ max c N.length ∧ N'.length ≤ N.length + 5 ∧ (o = none → c ≤ N'.length) ∧ ∀ r, o = some r → TrI N' r (chg [(k, v)] k qs) (f + 1) := by
  obtain ⟨l, g, h1, h2, h3, h4⟩ := h
  obtain ⟨ws, hw, hl, hz, hp⟩ := put_ok (c := c) (v := v) hN hc h1 (by omega) hk
  refine ⟨ws, hw, by omega, fun o N' e => ?_⟩
  obtain ⟨M, rfl, m1, m2, m3⟩ := hp o N' e
  refine ⟨m2, by simp; omega, fun e2 => by subst e2; exact putM_room e, fun r e2 => ?_⟩
  obtain ⟨l', g', t1, t2, t3, t4, t5⟩ := m3 r e2
  exact ⟨l', g', t1, t2.nodup h2 fun x hx => (h1.pages x hx).2, t5 h3 (by omega), by omega⟩

/-- A pair is dropped. -/
theorem TrI.drop {N : List Nd} (hN : N.length ≤ 511) {c root k f : Nat} {qs : Pairs} (hc : c ≤ 511) (h : TrI N root qs f) :
    ∃ ws init z, ws = init ++ [z] ∧ DescW N k root ws ∧ ws.length ≤ 2 ∧ LastS N k qs z ∧ (∀ l1 N1, climbM c ws [] N = (some l1, N1) → LowOk N1 (lvOf ws) l1) ∧ ∀ o N', dropM c ws N = (o, N') → N'.length ≤ max c N.length ∧ ∀ r, o = some r → TrI N' r (chg [] k qs) f := by
  obtain ⟨l, g, h1, h2, h3, h4⟩ := h
  obtain ⟨ws, hw, hl, ⟨z, hz1, hz2⟩, hlow, hp⟩ := drop_ok (c := c) (k := k) hN hc h1
  obtain ⟨init, hi⟩ : ∃ init, ws = init ++ [z] := List.getLast?_eq_some_iff.1 hz1
  refine ⟨ws, init, z, hi, hw, by omega, hz2, hlow, fun o N' e => ?_⟩
  obtain ⟨M, rfl, m1, m2, m3⟩ := hp o N' e
  refine ⟨m2, fun r e2 => ?_⟩
  obtain ⟨l', g', t1, t2, t3, t4⟩ := m3 r e2
  exact ⟨l', g', t1, t2.nodup h2 fun x hx => (h1.pages x hx).2, by omega, by omega⟩

theorem has_mem {ps : Pairs} {k : Nat} : hasK ps k = true ↔ ∃ v, (k, v) ∈ ps := by
  unfold hasK
  rw [List.any_eq_true]
  constructor
  · rintro ⟨⟨a, b⟩, h1, h2⟩
    simp at h2
    subst h2
    exact ⟨b, h1⟩
  · rintro ⟨v, h⟩
    exact ⟨_, h, by simp⟩
theorem last_no {N : List Nd} {k : Nat} {qs : Pairs} {z : Stp} (h : LastS N k qs z) (hk : ∀ v, (k, v) ∉ qs) : z.fr = z.to := by
  obtain ⟨h1, h2, h3, h4, h5, h6⟩ := h
  have : hasK z.ps k = false := by
    rw [← Bool.not_eq_true, has_mem]
    rintro ⟨v, hv⟩
    exact hk v ((h5 v).2 hv)
  rw [h2, h3, toOf, if_neg (by rw [this]; decide)]
theorem last_at {N : List Nd} {k v : Nat} {qs : Pairs} {z : Stp} (h : LastS N k qs z) (hk : (k, v) ∈ qs) : z.fr ≠ z.to ∧ z.fr < z.ps.length ∧ valAt z.ps z.fr = v := by
  obtain ⟨h1, h2, h3, h4, h5, h6⟩ := h
  have hm := (h5 v).1 hk
  have hh : hasK z.ps k = true := has_mem.2 ⟨v, hm⟩
  obtain ⟨i, hi, e⟩ := List.getElem_of_mem hm
  have hb : belowK z.ps k = i := by
    have e1 := filter_lt_take h4 k
    have e2 : (z.ps.filter fun p => decide (p.1 < k)) = z.ps.take i := by
      have hsp := (List.take_append_drop i z.ps).symm
      have hp := List.pairwise_iff_getElem.1 h4
      conv => lhs; rw [hsp]
      rw [List.filter_append]
      have f1 : ((z.ps.take i).filter fun p => decide (p.1 < k)) = z.ps.take i := by
        rw [List.filter_eq_self]
        intro p hp'
        obtain ⟨j, hj, e'⟩ := List.getElem_of_mem hp'
        rw [List.length_take] at hj
        rw [List.getElem_take] at e'
        have := hp j i (by omega) hi (by omega)
        rw [e, e'] at this
        simpa using this
      have f2 : ((z.ps.drop i).filter fun p => decide (p.1 < k)) = [] := by
        rw [List.filter_eq_nil_iff]
        intro p hp'
        obtain ⟨j, hj, e'⟩ := List.getElem_of_mem hp'
        rw [List.length_drop] at hj
        rw [List.getElem_drop] at e'
        rcases Nat.eq_zero_or_pos j with rfl | h0
        · simp only [Nat.add_zero, e] at e'
          rw [← e']
          simp
        · have := hp i (i + j) hi (by omega) (by omega)
          rw [e, e'] at this
          simp; omega
      rw [f1, f2, List.append_nil]
    have e3 : belowK z.ps k = (z.ps.filter fun p => decide (p.1 < k)).length := List.countP_eq_length_filter
    rw [e3, e2, List.length_take]
    omega
  refine ⟨?_, by rw [h2, hb]; exact hi, ?_⟩
  · rw [h2, h3, toOf, if_pos hh]; omega
  · rw [h2, hb, valAt_get hi, e]

theorem chg_drop {qs : Pairs} (k : Nat) (h : Srt qs) : chg [] k qs = qs.filter fun p => decide (p.1 ≠ k) := by
  unfold chg
  rw [List.append_nil]
  induction qs with
  | nil => rfl
  | cons p r ih =>
    obtain ⟨h1, h2⟩ := List.pairwise_cons.1 h
    rw [List.filter_cons, List.filter_cons, List.filter_cons]
    by_cases hp : p.1 < k
    · rw [if_pos (by simpa using hp), if_neg (by simp; omega), if_pos (by simp; omega), List.cons_append, ih h2]
    · have h3 : (r.filter fun p => decide (p.1 < k)) = [] := by
        rw [List.filter_eq_nil_iff]; intro q hq; have := h1 q hq; simp; omega
      have h4 := ih h2
      rw [h3, List.nil_append] at h4
      rw [if_neg (by simpa using hp), h3, List.nil_append, h4]
      by_cases hk : k < p.1
      · rw [if_pos (by simpa using hk), if_pos (by simp; omega)]
      · rw [if_neg (by simpa using hk), if_neg (by simp; omega)]
theorem chg_length {qs : Pairs} {k v : Nat} (h : ∀ w, (k, w) ∉ qs) : (chg [(k, v)] k qs).length = qs.length + 1 := by
  unfold chg
  rw [List.length_append, List.length_append]
  have : (qs.filter fun p => decide (p.1 < k)).length + (qs.filter fun p => decide (k < p.1)).length = qs.length := by
    clear v
    induction qs with
    | nil => rfl
    | cons p r ih =>
      have h1 := ih fun w hw => h w (List.mem_cons_of_mem _ hw)
      have h2 : p.1 ≠ k := fun e => h p.2 (by rw [← e]; exact List.mem_cons_self)
      rw [List.filter_cons, List.filter_cons]
      by_cases hp : p.1 < k
      · rw [if_pos (by simpa using hp), if_neg (by simp; omega), List.length_cons, List.length_cons]; omega
      · rw [if_neg (by simpa using hp), if_pos (by simp; omega), List.length_cons, List.length_cons]; omega
  simp only [List.length_singleton]
  omega

end Go.Proofs.Ytdbohcdjamhdjaa
