import Derived.Test.YtdbohcdjamhdjaaHs8W
/- TreeMap of layer 8: a tree whose nodes are named; a change may find no room. -/
set_option linter.unusedVariables false
namespace Go.Proofs.Ytdbohcdjamhdjaa
open Go.RowKit

/-- A tree as a row of pairs, its nodes named. -/
def TrN (w0 : World) (s room root : Nat) (qs : Pairs) (f : Nat) (N : List Nd) (W : World) : Prop :=
  ∃ D, IsSh W s room N D ∧ TrI N root qs f ∧ N.length ≤ min room 511 ∧ (∀ k, D k → w0.heap.size ≤ k) ∧ KeptIn (· < w0.heap.size) w0 W

theorem TrN.m {w0 W : World} {s room root f : Nat} {qs : Pairs} {N : List Nd} (h : TrN w0 s room root qs f N W) : TrM w0 s room root qs f N.length W := by
  obtain ⟨D, h1, h2, h3, h4, h5⟩ := h
  exact ⟨N, D, h1, h2, Nat.le_refl _, h3, h4, h5⟩
theorem TrN.old {w0 W W' : World} {s room root f : Nat} {qs : Pairs} {N : List Nd} (h : TrN w0 s room root qs f N W) (hk : KeptIn (· < W.heap.size) W W') : TrN w0 s room root qs f N W' := by
  obtain ⟨D, h1, h2, h3, h4, h5⟩ := h
  exact ⟨D, h1.old hk, h2, h3, h4, h5.go hk⟩
theorem trn_add {w0 W W' : World} {s room f r : Nat} {qs : Pairs} {N' : List Nd} {D : Nat → Prop} (h : AddTo W s room D N' W') (hD : ∀ k, D k → w0.heap.size ≤ k) (hs : D s) (hk : KeptIn (· < w0.heap.size) w0 W) (ht : TrI N' r qs f) (hr : N'.length ≤ min room 511) : TrN w0 s room r qs f N' W' := by
  obtain ⟨D', h1, h2, h3⟩ := h
  have hz := hk.size
  refine ⟨D', h1, ht, hr, fun k hk' => ?_, hk.trans (h3.mono fun k hk' => ⟨by omega, ?_⟩)⟩
  · rcases h2 k hk' with h | h
    · exact hD k h
    · omega
  · have := hD s hs
    omega

theorem TrI.put3 {N : List Nd} (hN : N.length ≤ 511) {c root k v f : Nat} {qs : Pairs} (hc : c ≤ 511) (h : TrI N root qs f) (hf : 8 ≤ f) (hf2 : f < 127) (hk : k ≤ topH) :
    ∃ ws, DescW N k root ws ∧ ws.length ≤ 2 ∧ ∀ o N', putM c ws (k, v) N = (o, N') → ∃ M, N' = N ++ M ∧ M.length ≤ 5 ∧ N'.length ≤ max c N.length ∧ ∀ r, o = some r → TrI N' r (chg [(k, v)] k qs) (f + 1) := by
  obtain ⟨l, g, h1, h2, h3, h4⟩ := h
  obtain ⟨ws, hw, hl, hz, hp⟩ := put_ok (c := c) (v := v) hN hc h1 (by omega) hk
  refine ⟨ws, hw, by omega, fun o N' e => ?_⟩
  obtain ⟨M, rfl, m1, m2, m3⟩ := hp o N' e
  refine ⟨M, rfl, by omega, m2, fun r e2 => ?_⟩
  obtain ⟨l', g', t1, t2, t3, t4, t5⟩ := m3 r e2
  exact ⟨l', g', t1, t2.nodup h2 fun x hx => (h1.pages x hx).2, t5 h3 (by omega), by omega⟩
theorem TrI.drop3 {N : List Nd} (hN : N.length ≤ 511) {c root k f : Nat} {qs : Pairs} (hc : c ≤ 511) (h : TrI N root qs f) :
    ∃ ws init z, ws = init ++ [z] ∧ DescW N k root ws ∧ ws.length ≤ 2 ∧ LastS N k qs z ∧ (∀ l1 N1, climbM c ws [] N = (some l1, N1) → LowOk N1 (lvOf ws) l1) ∧ ∀ o N', dropM c ws N = (o, N') → ∃ M, N' = N ++ M ∧ M.length ≤ 5 ∧ N'.length ≤ max c N.length ∧ ∀ r, o = some r → TrI N' r (chg [] k qs) f := by
  obtain ⟨l, g, h1, h2, h3, h4⟩ := h
  obtain ⟨ws, hw, hl, ⟨z, hz1, hz2⟩, hlow, hp⟩ := drop_ok (c := c) (k := k) hN hc h1
  obtain ⟨init, hi⟩ : ∃ init, ws = init ++ [z] := List.getLast?_eq_some_iff.1 hz1
  refine ⟨ws, init, z, hi, hw, by omega, hz2, hlow, fun o N' e => ?_⟩
  obtain ⟨M, rfl, m1, m2, m3⟩ := hp o N' e
  refine ⟨M, rfl, by omega, m2, fun r e2 => ?_⟩
  obtain ⟨l', g', t1, t2, t3, t4⟩ := m3 r e2
  exact ⟨l', g', t1, t2.nodup h2 fun x hx => (h1.pages x hx).2, by omega, by omega⟩

/-- What Put leaves: there was no room, and the tree stays, or there is another tree. -/
def PutN (w0 : World) (s room root k v f : Nat) (N : List Nd) (qs : Pairs) (W : World) (e : Ending) (w' : World) : Prop :=
  ∃ (r er : Nat) (M : List Nd), e = .returned (.tuple #[.int .i64 (r : Int), .int .i64 (er : Int)]) ∧ M.length ≤ 5 ∧ Fr8 s W w' ∧ ((er = 6 ∧ r = 0 ∧ TrN w0 s room root qs f (N ++ M) w' ∧ min room 511 ≤ (N ++ M).length) ∨ (er = 0 ∧ TrN w0 s room r (chg [(k, v)] k qs) (f + 1) (N ++ M) w'))
theorem tnPut {w0 W : World} {s room root k v f : Nat} {N : List Nd} {qs : Pairs} (h : TrN w0 s room root qs f N W) (hf : 8 ≤ f) (hf2 : f < 127) (hk : k < 18446744073709551616) (hv : v < 18446744073709551616) :
    Calls Try.prog 30 #[pgV s, .int .i64 (root : Int), .int .u64 (k : Int), .int .u64 (v : Int)] W (PutN w0 s room root k v f N qs W) := by
  obtain ⟨D, h1, h2, h4, h5, h6⟩ := h
  obtain ⟨ws, hw, hl, hp⟩ := h2.put3 (v := v) h1.len (c := min room 511) (by omega) hf hf2 (show k ≤ topH by unfold topH; omega)
  refine (trPut h1 root k v hk hv ws hw (by omega) h4).mono ?_
  intro e w' hR
  cases hM : putM (min room 511) ws (k, v) N with
  | mk o N' =>
    rw [hM] at hR
    obtain ⟨⟨p, er, rfl, hm⟩, ha⟩ := hR
    replace ha : AddTo W s room D N' w' := ha
    obtain ⟨M, rfl, q1, q2, q3⟩ := hp o N' hM
    have hfr : Fr8 s W w' := by obtain ⟨D', a1, a2, a3⟩ := ha; exact a3
    cases o with
    | none =>
      obtain ⟨rfl, rfl⟩ := hm
      exact ⟨0, 6, M, rfl, q1, hfr, .inl ⟨rfl, rfl, trn_add ha h5 h1.ds h6 h2.app (by omega), putM_room hM⟩⟩
    | some r =>
      obtain ⟨rfl, rfl⟩ := hm
      exact ⟨p, 0, M, rfl, q1, hfr, .inr ⟨rfl, trn_add ha h5 h1.ds h6 (q3 p rfl) (by omega)⟩⟩



end Go.Proofs.Ytdbohcdjamhdjaa
