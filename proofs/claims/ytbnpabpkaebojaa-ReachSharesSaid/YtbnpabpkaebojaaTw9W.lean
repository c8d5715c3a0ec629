import Derived.Test.YtbnpabpkaebojaaRs9W
/- ReachShares of layer 9: a tree and the same with one more change. -/
set_option linter.unusedVariables false
namespace Go.Proofs.Ytbnpabpkaebojaa
open Go.RowKit

/-- A tree and what it became. -/
structure Tw (w : World) (s root next l : Nat) (N : List Nd) (D : Nat → Prop) (g g' : List Nat) (W : World) : Prop where
  sh : IsSh W s 511 N D
  kept : KeptIn (· < w.heap.size) w W
  t1 : ∃ qs, TreeG N root l qs g
  n1 : g.Nodup
  t2 : ∃ l' qs', TreeG N next l' qs' g'
  n2 : g'.Nodup
  r0 : root ≠ 0
  few : ∃ h f, g'.Perm (h ++ f) ∧ List.Sublist h g ∧ f.length ≤ l + 4
theorem Tw.old {w W W' : World} {s root next l : Nat} {N : List Nd} {D : Nat → Prop} {g g' : List Nat} (h : Tw w s root next l N D g g' W) (hk : KeptIn (· < W.heap.size) W W') : Tw w s root next l N D g g' W' :=
  ⟨h.sh.old hk, h.kept.go hk, h.t1, h.n1, h.t2, h.n2, h.r0, h.few⟩

theorem few_new9 {n m : Nat} {f : List Nat} (hn : f.Nodup) (h : ∀ x ∈ f, n < x ∧ x ≤ n + m) : f.length ≤ m := by
  have h1 := sub_le9 (a := ofP f) (b := (List.range m).map fun i => ((n + 1 + i : Nat) : Int)) (ofP_nodup hn) fun x hx => by
    obtain ⟨z, hz, rfl⟩ := List.mem_map.1 hx
    have := h z hz
    exact List.mem_map.2 ⟨z - n - 1, List.mem_range.2 (by omega), by show ((n + 1 + (z - n - 1) : Nat) : Int) = ((z : Nat) : Int); omega⟩
  unfold ofP at h1
  rw [List.length_map, List.length_map, List.length_range] at h1
  exact h1
theorem tw_made {w W w' : World} {s root r l l' : Nat} {N M : List Nd} {D : Nat → Prop} {qs qs' : Pairs} {g g' : List Nat} (ha : AddTo W s 511 D (N ++ M) w') (hs : D s) (hD : ∀ k, D k → w.heap.size ≤ k) (hk : KeptIn (· < w.heap.size) w W) (ht : TreeG N root l qs g) (hnd : g.Nodup) (r0 : root ≠ 0)
    (ht2 : TreeG (N ++ M) r l' qs' g') (hp : PgR N.length (N ++ M).length g g') (hm : M.length ≤ l + 4) : ∃ D', Tw w s root r l (N ++ M) D' g g' w' := by
  obtain ⟨D', h1, h2, h3⟩ := ha
  have hz := hk.size
  have hsw := hD s hs
  refine ⟨D', h1, hk.trans (h3.mono fun k hk' => ⟨by omega, by omega⟩), ⟨qs, ht.app⟩, hnd, ⟨l', qs', ht2⟩, hp.nodup hnd fun x hx => (ht.pages x hx).2, r0, ?_⟩
  obtain ⟨h, f, p1, p2, p3, p4⟩ := hp
  refine ⟨h, f, p1, p2, Nat.le_trans (few_new9 (n := N.length) (m := M.length) p3 fun x hx => ?_) hm⟩
  have := p4 x hx
  rw [List.length_append] at this
  exact this
theorem tw_room {w W w' : World} {s : Nat} {N' : List Nd} {D : Nat → Prop} (ha : AddTo W s 511 D N' w') (hs : D s) (hD : ∀ k, D k → w.heap.size ≤ k) (hk : KeptIn (· < w.heap.size) w W) : KeptIn (· < w.heap.size) w w' := by
  obtain ⟨D', h1, h2, h3⟩ := ha
  have hz := hk.size
  have hsw := hD s hs
  exact hk.trans (h3.mono fun k hk' => ⟨by omega, by omega⟩)

/-- What Put leaves. -/
def TwP (w W : World) (s root l : Nat) (g : List Nat) (e : Ending) (w' : World) : Prop :=
  ∃ r er : Nat, e = .returned (.tuple #[.int .i64 (r : Int), .int .i64 (er : Int)]) ∧ KeptIn (fun k => k < W.heap.size ∧ k ≠ s) W w' ∧ ((er = 6 ∧ KeptIn (· < w.heap.size) w w') ∨ (er = 0 ∧ ∃ N' D' g', Tw w s root r l N' D' g g' w'))
def TwD (w W : World) (s root l : Nat) (g : List Nat) (e : Ending) (w' : World) : Prop :=
  ∃ (r er : Nat) (b : Bool), e = .returned (.tuple #[.int .i64 (r : Int), .bool b, .int .i64 (er : Int)]) ∧ KeptIn (fun k => k < W.heap.size ∧ k ≠ s) W w' ∧ ((er = 6 ∧ KeptIn (· < w.heap.size) w w') ∨ (er = 0 ∧ ∃ N' D' g', Tw w s root r l N' D' g g' w'))
section
variable {w W : World} {s root l : Nat} {N : List Nd} {D : Nat → Prop} {qs : Pairs} {g : List Nat}
theorem twPut (h : IsSh W s 511 N D) (hD : ∀ k, D k → w.heap.size ≤ k) (hk : KeptIn (· < w.heap.size) w W) (ht : TreeG N root l qs g) (hnd : g.Nodup) (r0 : root ≠ 0) (hl : l ≤ 1) (k v : Nat) (hk1 : k < 18446744073709551616) (hv : v < 18446744073709551616) :
    Calls Try.prog 16 #[pgV s, .int .i64 (root : Int), .int .u64 (k : Int), .int .u64 (v : Int)] W (TwP w W s root l g) := by
  obtain ⟨ws, hw, hwl, hz, hp⟩ := put_ok (v := v) (c := 511) h.len (by omega) ht (by omega) (show k ≤ topH by unfold topH; omega)
  refine (trPut h root k v hk1 hv ws hw (by omega) (by have := h.len; omega)).mono ?_
  intro e w' hR
  rw [show min 511 511 = 511 from rfl] at hR
  cases hM : putM 511 ws (k, v) N with
  | mk o N' =>
    rw [hM] at hR
    obtain ⟨⟨p, er, rfl, hm⟩, ha⟩ := hR
    replace ha : AddTo W s 511 D N' w' := ha
    have hfr : KeptIn (fun k => k < W.heap.size ∧ k ≠ s) W w' := by obtain ⟨D', a1, a2, a3⟩ := ha; exact a3
    obtain ⟨M, rfl, q1, q2, q3⟩ := hp o N' hM
    cases o with
    | none =>
      obtain ⟨rfl, rfl⟩ := hm
      exact ⟨0, 6, rfl, hfr, .inl ⟨rfl, tw_room ha h.ds hD hk⟩⟩
    | some r =>
      obtain ⟨rfl, rfl⟩ := hm
      obtain ⟨l', g', t1, t2, _⟩ := q3 p rfl
      obtain ⟨D', h9⟩ := tw_made ha h.ds hD hk ht hnd r0 t1 t2 (by omega)
      exact ⟨p, 0, rfl, hfr, .inr ⟨rfl, _, D', g', h9⟩⟩
theorem twDrop (h : IsSh W s 511 N D) (hD : ∀ k, D k → w.heap.size ≤ k) (hk : KeptIn (· < w.heap.size) w W) (ht : TreeG N root l qs g) (hnd : g.Nodup) (r0 : root ≠ 0) (hl : l ≤ 1) (k : Nat) (hk1 : k < 18446744073709551616) :
    Calls Try.prog 15 #[pgV s, .int .i64 (root : Int), .int .u64 (k : Int)] W (TwD w W s root l g) := by
  obtain ⟨ws, hw, hwl, ⟨z, hz1, hz⟩, hlow, hp⟩ := drop_ok (k := k) (c := 511) h.len (by omega) ht
  obtain ⟨init, hws⟩ : ∃ init, ws = init ++ [z] := List.getLast?_eq_some_iff.1 hz1
  by_cases hin : ∃ v, (k, v) ∈ qs
  · obtain ⟨v, hv⟩ := hin
    obtain ⟨z1, z2, z3⟩ := last_at hz hv
    refine (trDropSome h root k hk1 ws init z hws hw (by omega) (by have := h.len; omega) z1 hlow).mono ?_
    intro e w' hR
    rw [show min 511 511 = 511 from rfl] at hR
    cases hM : dropM 511 ws N with
    | mk o N' =>
      rw [hM] at hR
      obtain ⟨⟨p, b, er, rfl, hm⟩, ha⟩ := hR
      replace ha : AddTo W s 511 D N' w' := ha
      have hfr : KeptIn (fun k => k < W.heap.size ∧ k ≠ s) W w' := by obtain ⟨D', a1, a2, a3⟩ := ha; exact a3
      obtain ⟨M, rfl, q1, q2, q4⟩ := hp o N' hM
      cases o with
      | none =>
        obtain ⟨rfl, rfl, rfl⟩ := hm
        exact ⟨0, 6, false, rfl, hfr, .inl ⟨rfl, tw_room ha h.ds hD hk⟩⟩
      | some r =>
        obtain ⟨rfl, rfl, rfl⟩ := hm
        obtain ⟨l', g', t1, t2, _⟩ := q4 p rfl
        obtain ⟨D', h9⟩ := tw_made ha h.ds hD hk ht hnd r0 t1 t2 (by omega)
        exact ⟨p, 0, true, rfl, hfr, .inr ⟨rfl, _, D', g', h9⟩⟩
  · have hno : ∀ v, (k, v) ∉ qs := fun v hv => hin ⟨v, hv⟩
    refine (trDropNone h root k hk1 ws init z hws hw (by omega) (last_no hz hno)).mono ?_
    rintro e w' ⟨rfl, hkk⟩
    exact ⟨root, 0, false, rfl, hkk.mono fun k h => h.1, .inr ⟨rfl, N, D, g, h.old hkk, hk.go hkk, ⟨qs, ht⟩, hnd, ⟨l, qs, ht⟩, hnd, r0, g, [], by simp, .refl g, by simp⟩⟩
end

section
variable {w W : World} {s root next l : Nat} {N : List Nd} {D : Nat → Prop} {g g' : List Nat}
/-- Which pages both need. -/
def twG (next : Nat) (g g' : List Nat) (x : Int) : List Int := if x = (next : Int) then ofP g' else ofP g
def twP1 (g : List Nat) (q : Int) : Bool := decide (q ∈ ofP g)
def twP2 (root next : Nat) (g g' : List Nat) (q : Int) : Bool := decide (q ∈ twG next g g' (root : Int) ∨ q ∈ twG next g g' (next : Int))
theorem Tw.hG1 (h : Tw w s root next l N D g g' W) : ∀ x ∈ [(root : Int)], ∃ root l qs g2, x = ((root : Nat) : Int) ∧ TreeG N root l qs g2 ∧ g2.Nodup ∧ (fun _ => ofP g) x = ofP g2 := by
  intro x hx
  rw [List.mem_singleton] at hx
  subst hx
  obtain ⟨qs, ht⟩ := h.t1
  exact ⟨root, l, qs, g, rfl, ht, h.n1, rfl⟩
theorem Tw.hP1 (h : Tw w s root next l N D g g' W) : ∀ q, twP1 g q = true ↔ ∃ x ∈ [(root : Int)], q ∈ (fun _ => ofP g) x := by
  intro q
  unfold twP1
  simp
theorem Tw.hG2 (h : Tw w s root next l N D g g' W) : ∀ x ∈ [(root : Int), (next : Int)], ∃ root l qs g2, x = ((root : Nat) : Int) ∧ TreeG N root l qs g2 ∧ g2.Nodup ∧ twG next g g' x = ofP g2 := by
  intro x hx
  obtain ⟨qs, ht⟩ := h.t1
  obtain ⟨l', qs', ht2⟩ := h.t2
  by_cases e : x = (next : Int)
  · subst e
    exact ⟨next, l', qs', g', rfl, ht2, h.n2, by unfold twG; rw [if_pos rfl]⟩
  · simp only [List.mem_cons, List.not_mem_nil, or_false] at hx
    obtain rfl := hx.resolve_right e
    exact ⟨root, l, qs, g, rfl, ht, h.n1, by unfold twG; rw [if_neg e]⟩
theorem Tw.hP2 (h : Tw w s root next l N D g g' W) : ∀ q, twP2 root next g g' q = true ↔ ∃ x ∈ [(root : Int), (next : Int)], q ∈ twG next g g' x := by
  intro q
  unfold twP2
  simp
/-- New pages are few. -/
theorem Tw.fewer (h : Tw w s root next l N D g g' W) : (need9 N [(root : Int), (next : Int)] (twP2 root next g g')).length ≤ (need9 N [(root : Int)] (twP1 g)).length + l + 4 := by
  have nd : ∀ rs P, (need9 N rs P).Nodup := fun rs P => (upTo_sorted _ _).imp fun {x y} h e => by omega
  have hm : ∀ {rs : List Int} {G : Int → List Int} {P : Int → Bool}, (∀ r ∈ rs, ∃ root l qs g, r = ((root : Nat) : Int) ∧ TreeG N root l qs g ∧ g.Nodup ∧ G r = ofP g) → (∀ q, P q = true ↔ ∃ r ∈ rs, q ∈ G r) → ∀ q, q ∈ need9 N rs P ↔ ∃ r ∈ rs, q ∈ G r := fun {rs G P} hG hP q => by
    unfold need9
    rw [mem_upTo, decide_eq_true_eq, cnA_pos h.sh.len hG hP]
    refine ⟨fun h => h.2.2, fun hq => ?_⟩
    obtain ⟨r, hr, hq2⟩ := hq
    obtain ⟨root, l, qs, g, e, hT, _, hg⟩ := hG r hr
    rw [hg] at hq2
    obtain ⟨z, hz, e2⟩ := List.mem_map.1 hq2
    have := hT.pages z hz
    have e3 : ((z : Nat) : Int) = q := e2
    have := h.sh.len
    exact ⟨by omega, by omega, r, hr, by rw [hg]; exact hq2⟩
  have h1 : g.length ≤ (need9 N [(root : Int)] (twP1 g)).length := by
    have := sub_le9 (a := ofP g) (b := need9 N [(root : Int)] (twP1 g)) (ofP_nodup h.n1) fun x hx => (hm h.hG1 h.hP1 x).2 ⟨_, List.mem_singleton.2 rfl, hx⟩
    unfold ofP at this
    rwa [List.length_map] at this
  obtain ⟨hh, f, p1, p2, p3⟩ := h.few
  have hin : ∀ x, x ∈ ofP g ∨ x ∈ ofP g' → x ∈ ofP (g ++ f) := fun x hx => by
    unfold ofP
    rw [List.map_append, List.mem_append]
    rcases hx with hx | hx
    · exact .inl hx
    · obtain ⟨z, hz, rfl⟩ := List.mem_map.1 hx
      rcases List.mem_append.1 (p1.mem_iff.1 hz) with hz | hz
      · exact .inl (List.mem_map.2 ⟨z, p2.mem hz, rfl⟩)
      · exact .inr (List.mem_map.2 ⟨z, hz, rfl⟩)
  have h2 := sub_le9 (a := need9 N [(root : Int), (next : Int)] (twP2 root next g g')) (b := ofP (g ++ f)) (nd _ _) fun x hx => by
    obtain ⟨r, hr, hq⟩ := (hm h.hG2 h.hP2 x).1 hx
    unfold twG at hq
    split at hq
    · exact hin x (.inr hq)
    · exact hin x (.inl hq)
  unfold ofP at h2
  rw [List.length_map, List.length_append] at h2
  omega
end

/-- Where the change starts. -/
structure Ss (w : World) (s root l i : Nat) (N : List Nd) (D : Nat → Prop) (g : List Nat) (qs ps : Pairs) (W : World) : Prop where
  sh : IsSh W s 511 N D
  dge : ∀ k, D k → w.heap.size ≤ k
  kept : KeptIn (· < w.heap.size) w W
  t : TreeG N root l qs g
  nd : g.Nodup
  r0 : root ≠ 0
  l1 : l ≤ 1
  ri : root = i + 1
  at_ : N[i]? = some (l, ps)
theorem Ss.old {w W W' : World} {s root l i : Nat} {N : List Nd} {D : Nat → Prop} {g : List Nat} {qs ps : Pairs} (h : Ss w s root l i N D g qs ps W) (hk : KeptIn (· < W.heap.size) W W') : Ss w s root l i N D g qs ps W' := ⟨h.sh.old hk, h.dge, h.kept.go hk, h.t, h.nd, h.r0, h.l1, h.ri, h.at_⟩
theorem ss_start {w W : World} {s root f : Nat} {N : List Nd} {qs : Pairs} (h : TrN w s 511 root qs f N W) (hq : 0 < qs.length) : ∃ l i D g ps, Ss w s root l i N D g qs ps W := by
  obtain ⟨D, h1, ⟨l, g, t1, t2, t3, _⟩, _, h4, h5⟩ := h
  have hr : root ≠ 0 ∧ ∃ ps, nodeOf N root = some (l, ps) := by
    rcases t1 with ⟨_, rfl, _⟩ | ⟨ps, g', hS, _⟩
    · cases hq
    · exact ⟨by have := nodeOf_le hS.node; omega, ps, hS.node⟩
  obtain ⟨hr0, ps, hn⟩ := hr
  obtain ⟨i, e, _, hi⟩ := nodeOf_mlt hn
  exact ⟨l, i, D, g, ps, h1, h4, h5, t1, t2, hr0, t3, e, hi⟩
theorem Ss.read {w W : World} {s root l i : Nat} {N : List Nd} {D : Nat → Prop} {g : List Nat} {qs ps : Pairs} (h : Ss w s root l i N D g qs ps W) : Calls Try.prog 14 #[.pointer (some ⟨s, 0, none⟩), .int .i64 (root : Int)] W (RdS W (l : Int) ps) := by
  obtain ⟨hi, e⟩ := List.getElem?_eq_some_iff.1 h.at_
  have := shRead h.sh i hi
  rw [e, ← h.ri] at this
  exact this

end Go.Proofs.Ytbnpabpkaebojaa
