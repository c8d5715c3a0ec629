import Derived.Test.YtdbohcdjamhdjaaTq8W
import Derived.Test.YtdbohcdjamhdjaaV6
import Derived.Deep.AppendLies
/- TreeShares of layer 8: what a row of changes leaves of all trees that there were. -/
set_option linter.unusedVariables false
namespace Go.Proofs.Ytdbohcdjamhdjaa
open Go.RowKit

theorem dropM_room {c : Nat} {ws : List Stp} {N N' : List Nd} (h : dropM c ws N = (none, N')) : c ≤ N'.length := by
  unfold dropM at h
  split at h
  · rename_i N1 h1
    obtain ⟨_, rfl⟩ := Prod.mk.inj h
    exact climbM_room h1
  · rename_i l N1 h1
    split at h
    · cases h
    · exact pileM_room h

theorem TrI.app {N M : List Nd} {root f : Nat} {qs : Pairs} (h : TrI N root qs f) : TrI (N ++ M) root qs f := by
  obtain ⟨l, g, h1, h2, h3, h4⟩ := h
  exact ⟨l, g, h1.app, h2, h3, by rw [phi_app h1.pages]; exact h4⟩
theorem TrI.put2 {N : List Nd} (hN : N.length ≤ 511) {c root k v f : Nat} {qs : Pairs} (hc : c ≤ 511) (h : TrI N root qs f) (hf : 8 ≤ f) (hf2 : f < 127) (hk : k ≤ topH) :
    ∃ ws, DescW N k root ws ∧ ws.length ≤ 2 ∧ ∀ o N', putM c ws (k, v) N = (o, N') → ∃ M, N' = N ++ M ∧ M.length ≤ 5 ∧ (o = none → c ≤ N'.length) ∧ ∀ r, o = some r → TrI N' r (chg [(k, v)] k qs) (f + 1) := by
  obtain ⟨l, g, h1, h2, h3, h4⟩ := h
  obtain ⟨ws, hw, hl, hz, hp⟩ := put_ok (c := c) (v := v) hN hc h1 (by omega) hk
  refine ⟨ws, hw, by omega, fun o N' e => ?_⟩
  obtain ⟨M, rfl, m1, m2, m3⟩ := hp o N' e
  refine ⟨M, rfl, by omega, fun e2 => by subst e2; exact putM_room e, fun r e2 => ?_⟩
  obtain ⟨l', g', t1, t2, t3, t4, t5⟩ := m3 r e2
  exact ⟨l', g', t1, t2.nodup h2 fun x hx => (h1.pages x hx).2, t5 h3 (by omega), by omega⟩
theorem TrI.drop2 {N : List Nd} (hN : N.length ≤ 511) {c root k f : Nat} {qs : Pairs} (hc : c ≤ 511) (h : TrI N root qs f) :
    ∃ ws init z, ws = init ++ [z] ∧ DescW N k root ws ∧ ws.length ≤ 2 ∧ LastS N k qs z ∧ (∀ l1 N1, climbM c ws [] N = (some l1, N1) → LowOk N1 (lvOf ws) l1) ∧ ∀ o N', dropM c ws N = (o, N') → ∃ M, N' = N ++ M ∧ M.length ≤ 5 ∧ (o = none → c ≤ N'.length) ∧ ∀ r, o = some r → TrI N' r (chg [] k qs) f := by
  obtain ⟨l, g, h1, h2, h3, h4⟩ := h
  obtain ⟨ws, hw, hl, ⟨z, hz1, hz2⟩, hlow, hp⟩ := drop_ok (c := c) (k := k) hN hc h1
  obtain ⟨init, hi⟩ : ∃ init, ws = init ++ [z] := List.getLast?_eq_some_iff.1 hz1
  refine ⟨ws, init, z, hi, hw, by omega, hz2, hlow, fun o N' e => ?_⟩
  obtain ⟨M, rfl, m1, m2, m3⟩ := hp o N' e
  refine ⟨M, rfl, by omega, fun e2 => by subst e2; exact dropM_room e, fun r e2 => ?_⟩
  obtain ⟨l', g', t1, t2, t3, t4⟩ := m3 r e2
  exact ⟨l', g', t1, t2.nodup h2 fun x hx => (h1.pages x hx).2, by omega, by omega⟩
theorem chg_len_le (xs : Pairs) (k : Nat) (qs : Pairs) : (chg xs k qs).length ≤ qs.length + xs.length := by
  unfold chg
  rw [List.length_append, List.length_append]
  have : (qs.filter fun p => decide (p.1 < k)).length + (qs.filter fun p => decide (k < p.1)).length ≤ qs.length := by
    induction qs with
    | nil => simp
    | cons p r ih =>
      rw [List.filter_cons, List.filter_cons]
      by_cases hp : p.1 < k
      · rw [if_pos (by simpa using hp), if_neg (by simp; omega), List.length_cons, List.length_cons]; omega
      · rw [if_neg (by simpa using hp), List.length_cons]
        split
        · rw [List.length_cons]; omega
        · omega
  omega

/-- What a change hands back: a root, the Shelf with more nodes. -/
def ChR (s : Nat) (N : List Nd) (f : Nat) (D : Nat → Prop) (qs2 : Pairs) (W : World) (r : Nat) (w' : World) : Prop :=
  ∃ M D2, IsSh w' s 511 (N ++ M) D2 ∧ TrI (N ++ M) r qs2 (f + 1) ∧ M.length ≤ 5 ∧ (∀ k, D2 k → D k ∨ W.heap.size ≤ k) ∧ Fr8 s W w'
theorem hsPut {W : World} {s root k v f : Nat} {N : List Nd} {D : Nat → Prop} {qs : Pairs} (h : IsSh W s 511 N D) (ht : TrI N root qs f) (hn : N.length + 5 < 511) (hf : 8 ≤ f) (hf2 : f < 127) (hk : k < 18446744073709551616) (hv : v < 18446744073709551616) :
    Calls Try.prog 30 #[pgV s, .int .i64 (root : Int), .int .u64 (k : Int), .int .u64 (v : Int)] W fun e w' => ∃ r : Nat, e = .returned (.tuple #[.int .i64 (r : Int), .int .i64 0]) ∧ ChR s N f D (chg [(k, v)] k qs) W r w' := by
  obtain ⟨ws, hw, hl, hp⟩ := ht.put2 (v := v) h.len (c := 511) (by omega) hf hf2 (show k ≤ topH by unfold topH; omega)
  refine (trPut h root k v hk hv ws hw (by omega) (by omega)).mono ?_
  intro e w' hR
  rw [show min 511 511 = 511 from rfl] at hR
  cases hM : putM 511 ws (k, v) N with
  | mk o N' =>
    rw [hM] at hR
    obtain ⟨⟨p, er, rfl, hm⟩, ha⟩ := hR
    replace ha : AddTo W s 511 D N' w' := ha
    obtain ⟨M, rfl, q1, q2, q3⟩ := hp o N' hM
    cases o with
    | none => have := q2 rfl; rw [List.length_append] at this; omega
    | some r =>
      obtain ⟨rfl, rfl⟩ := hm
      obtain ⟨D2, a1, a2, a3⟩ := ha
      exact ⟨p, rfl, M, D2, a1, q3 p rfl, q1, a2, a3⟩

/-- A cell of a row of one-cell values of the call's own. -/
theorem own_at {w : World} {B n : Nat} {T : TypeId} {v : Value} {xs : List Value} (h : w.ownsRow B T 1 v n xs) {j : Nat} {u : Value} (hj : xs[j]? = some u) (hl : xs.length = n) :
    ∃ g cap, v = .slice (some ⟨g, 0, none⟩) n cap ∧ w.cell? ⟨g, j, none⟩ = some u ∧ g < w.heap.size := by
  rcases h.2 with ⟨_, h0⟩ | ⟨g, cap, cur, rfl, hg, hb, hc, hm, hs, ht⟩
  · have := (List.getElem?_eq_some_iff.1 hj).1; omega
  · refine ⟨g, cap, rfl, ?_, (Array.getElem?_eq_some_iff.1 hb).1⟩
    rw [cell_of_row w g j _ _ _ hb]
    have hjl : j < n := by rw [← hl]; exact (List.getElem?_eq_some_iff.1 hj).1
    rw [← ht, List.getElem?_take_of_lt (by omega)] at hj
    simpa using hj

/-- Pairs that Range has answered. -/
def PsE (W : World) (v : Value) (qs : Pairs) : Prop := ∃ a cap, v = .slice a qs.length cap ∧ IsPs W a qs ∧ (0 < qs.length → ∃ g, a = some ⟨g, 0, none⟩ ∧ TyP W g)
theorem PsE.kept {W W' : World} {X : Nat → Prop} {v : Value} {qs : Pairs} (h : PsE W v qs) (hk : KeptIn X W W') (hX : ∀ g, TyP W g → X g) : PsE W' v qs := by
  obtain ⟨a, cap, e, h1, h2⟩ := h
  rcases Nat.eq_zero_or_pos qs.length with h0 | h0
  · exact ⟨a, cap, e, ⟨h1.len, h1.fits, fun h => by omega⟩, fun h => by omega⟩
  · obtain ⟨g, rfl, hg⟩ := h2 h0
    exact ⟨_, cap, e, psAt h1 hk (fun p e => by cases e; exact hX g hg), fun _ => ⟨g, rfl, hg.kept (hk.block g (hX g hg))⟩⟩
theorem psE_of {w w' : World} {v : Value} {qs : Pairs} (h : w'.ownsRow w.heap.size 82 2 v qs.length (cellsP qs)) (hf : Fits qs) : PsE w' v qs := by
  obtain ⟨a, cap, rfl, hc⟩ := row_slice h
  have hps := row_IsPs h hf
  refine ⟨a, cap, rfl, hps, fun h0 => ?_⟩
  rcases h.2 with ⟨e, hx⟩ | ⟨g, cap', cur, e, hg, hb, _⟩
  · omega
  · simp only [Value.slice.injEq] at e
    exact ⟨g, e.1, cur, _, hb⟩

/-- All trees that there were, in memory. -/
structure HstI (w0 : World) (s nl root f : Nat) (qs : Pairs) (N : List Nd) (D : Nat → Prop) (R : List Nat) (Q : List Pairs) (vs : List Value) (v1 v2 : Value) (W : World) : Prop where
  sh : IsSh W s 511 N D
  dge : ∀ k, D k → w0.heap.size ≤ k
  nlen : N.length ≤ nl
  cur : TrI N root qs f
  all : ∀ (i r : Nat) (p : Pairs), R[i]? = some r → Q[i]? = some p → TrI N r p 100 ∧ p.length ≤ 100
  r1 : W.ownsRow w0.heap.size 3 1 v1 R.length (R.map fun (r : Nat) => Value.int .i64 (r : Int))
  r2 : W.ownsRow w0.heap.size 25 1 v2 Q.length vs
  vl : vs.length = Q.length
  va : ∀ (i : Nat) (v : Value) (p : Pairs), vs[i]? = some v → Q[i]? = some p → PsE W v p
  d1 : ∀ k, D k → v1.ownBlock ≠ some k
  d2 : ∀ k, D k → v2.ownBlock ≠ some k
  kept : KeptIn (· < w0.heap.size) w0 W

section
variable {w0 W W' : World} {s nl root f : Nat} {qs : Pairs} {N : List Nd} {D : Nat → Prop} {R : List Nat} {Q : List Pairs} {vs : List Value} {v1 v2 : Value}
theorem HstI.old (h : HstI w0 s nl root f qs N D R Q vs v1 v2 W) (hk : KeptIn (· < W.heap.size) W W') : HstI w0 s nl root f qs N D R Q vs v1 v2 W' :=
  ⟨h.sh.old hk, h.dge, h.nlen, h.cur, h.all, rowS_block h.r1 fun g e => hk.block g (rowS_lt h.r1 g e).2, rowS_block h.r2 fun g e => hk.block g (rowS_lt h.r2 g e).2, h.vl, fun i v p e1 e2 => (h.va i v p e1 e2).kept hk (fun g hg => hg.lt), h.d1, h.d2, h.kept.go hk⟩

/-- Behind a change. -/
theorem HstI.change {r : Nat} {qs2 : Pairs} (h : HstI w0 s nl root f qs N D R Q vs v1 v2 W) (hc : ChR s N f D qs2 W r W') : ∃ M D2, HstI w0 s (nl + 5) r (f + 1) qs2 (N ++ M) D2 R Q vs v1 v2 W' := by
  obtain ⟨M, D2, a1, a2, a3, a4, a5⟩ := hc
  obtain ⟨la, cp, hbox, _⟩ := h.sh.mem
  have hz := h.kept.size
  have hs0 := h.dge s h.sh.ds
  have n1 : ∀ g, v1.ownBlock = some g → g < W.heap.size ∧ g ≠ s := fun g e => ⟨(rowS_lt h.r1 g e).2, fun e2 => by subst e2; exact rowS_ne h.r1 hbox (by decide) e⟩
  have n2 : ∀ g, v2.ownBlock = some g → g < W.heap.size ∧ g ≠ s := fun g e => ⟨(rowS_lt h.r2 g e).2, fun e2 => by subst e2; exact rowS_ne h.r2 hbox (by decide) e⟩
  refine ⟨M, D2, a1, fun k hk => ?_, by rw [List.length_append]; have := h.nlen; omega, a2, fun i r p e1 e2 => ⟨(h.all i r p e1 e2).1.app, (h.all i r p e1 e2).2⟩, rowS_block h.r1 fun g e => a5.block g (n1 g e), rowS_block h.r2 fun g e => a5.block g (n2 g e), h.vl, fun i v p e1 e2 => (h.va i v p e1 e2).kept a5 (fun g hg => ⟨hg.lt, fun e => ?_⟩), fun k hk e => ?_, fun k hk e => ?_, h.kept.trans (a5.mono fun k hk => ⟨by omega, by omega⟩)⟩
  · rcases a4 k hk with h1 | h1
    · exact h.dge k h1
    · omega
  · subst e
    obtain ⟨cs, fr, hg⟩ := hg
    have := Eq.trans hg.symm hbox
    simp at this
  · rcases a4 k hk with h1 | h1
    · exact h.d1 k h1 e
    · have := (n1 k e).1; omega
  · rcases a4 k hk with h1 | h1
    · exact h.d2 k h1 e
    · have := (n2 k e).1; omega

/-- Behind the append of a root. -/
theorem HstI.push1 {w1 : World} {g cap : Nat} {o : Obj} (h : HstI w0 s nl root f qs N D R Q vs v1 v2 W) (hRQ : R.length = Q.length) (hg : (W.alloc o).grownBy w1 v1.ownBlock) (hl : v1.ownBlock = some g ∨ g = W.heap.size + 1)
    (hown : w1.ownsRow w0.heap.size 3 1 (.slice (some ⟨g, 0, none⟩) (R.length + 1) cap) (R.length + 1) ((R.map fun (r : Nat) => Value.int .i64 (r : Int)) ++ [.int .i64 (root : Int)])) :
    HstI w0 s nl root f qs N D (R ++ [root]) Q vs (.slice (some ⟨g, 0, none⟩) (R.length + 1) cap) v2 w1 := by
  have hk := grow_kept hg
  have hz := h.kept.size
  refine ⟨h.sh.kept (hk.mono fun k hD => ⟨h.sh.lt k hD, h.d1 k hD⟩), h.dge, h.nlen, h.cur, fun i r p e1 e2 => ?_, ?_, rowS_block h.r2 fun k e => hk.block k ⟨(rowS_lt h.r2 k e).2, fun e2 => ?_⟩, h.vl, fun i v p e1 e2 => (h.va i v p e1 e2).kept hk (fun k hk2 => ⟨hk2.lt, fun e => ?_⟩), fun k hD e => ?_, h.d2, h.kept.trans (hk.mono fun k hk2 => ⟨by omega, fun e => ?_⟩)⟩
  · have hi : i < R.length := by rw [hRQ]; exact (List.getElem?_eq_some_iff.1 e2).1
    rw [List.getElem?_append_left hi] at e1
    exact h.all i r p e1 e2
  · rw [List.length_append, List.map_append]; exact hown
  · obtain ⟨cs, fr, hb⟩ := own_type h.r1 e2
    exact rowS_ne h.r2 hb (by decide) e
  · obtain ⟨cs, fr, hb⟩ := hk2
    exact rowS_ne h.r1 hb (by decide) e
  · simp only [Value.ownBlock, Option.some.injEq] at e
    subst e
    rcases hl with hl | hl
    · exact h.d1 g hD hl
    · have := h.sh.lt g hD; omega
  · have := (rowS_lt h.r1 k e).1; omega

/-- Behind the append of its pairs. -/
theorem HstI.push2 {w1 : World} {g cap : Nat} {o : Obj} {u : Value} (h : HstI w0 s nl root f qs N D R Q vs v1 v2 W) (hlast : R[Q.length]? = some root) (hf : f ≤ 100) (hq : qs.length ≤ 100) (hu : PsE W u qs) (hg : (W.alloc o).grownBy w1 v2.ownBlock) (hl : v2.ownBlock = some g ∨ g = W.heap.size + 1)
    (hown : w1.ownsRow w0.heap.size 25 1 (.slice (some ⟨g, 0, none⟩) (Q.length + 1) cap) (Q.length + 1) (vs ++ [u])) :
    HstI w0 s nl root f qs N D R (Q ++ [qs]) (vs ++ [u]) v1 (.slice (some ⟨g, 0, none⟩) (Q.length + 1) cap) w1 := by
  have hk := grow_kept hg
  have hz := h.kept.size
  have hty : ∀ k, TyP W k → k < W.heap.size ∧ v2.ownBlock ≠ some k := fun k hk2 => ⟨hk2.lt, fun e => by
    obtain ⟨cs, fr, hb⟩ := hk2
    exact rowS_ne h.r2 hb (by decide) e⟩
  refine ⟨h.sh.kept (hk.mono fun k hD => ⟨h.sh.lt k hD, h.d2 k hD⟩), h.dge, h.nlen, h.cur, fun i r p e1 e2 => ?_, rowS_block h.r1 fun k e => hk.block k ⟨(rowS_lt h.r1 k e).2, fun e2 => ?_⟩, ?_, by rw [List.length_append, List.length_append, h.vl]; rfl, fun i v p e1 e2 => ?_, h.d1, fun k hD e => ?_, h.kept.trans (hk.mono fun k hk2 => ⟨by omega, fun e => ?_⟩)⟩
  · rcases Nat.lt_or_ge i Q.length with hi | hi
    · rw [List.getElem?_append_left hi] at e2
      exact h.all i r p e1 e2
    · have hi2 : i < Q.length + 1 := by have := (List.getElem?_eq_some_iff.1 e2).1; simpa using this
      obtain rfl : i = Q.length := by omega
      rw [List.getElem?_append_right (Nat.le_refl _), Nat.sub_self] at e2
      simp only [List.getElem?_cons_zero, Option.some.injEq] at e2
      rw [hlast] at e1
      cases e1
      subst e2
      exact ⟨h.cur.mono hf, hq⟩
  · obtain ⟨cs, fr, hb⟩ := own_type h.r2 e2
    exact rowS_ne h.r1 hb (by decide) e
  · rw [List.length_append]; exact hown
  · rcases Nat.lt_or_ge i Q.length with hi | hi
    · rw [List.getElem?_append_left hi] at e2
      rw [List.getElem?_append_left (by rw [h.vl]; exact hi)] at e1
      exact (h.va i v p e1 e2).kept hk hty
    · have hi2 : i < Q.length + 1 := by have := (List.getElem?_eq_some_iff.1 e2).1; simpa using this
      obtain rfl : i = Q.length := by omega
      rw [List.getElem?_append_right (Nat.le_refl _), Nat.sub_self] at e2
      rw [List.getElem?_append_right (by rw [h.vl]; exact Nat.le_refl _), h.vl, Nat.sub_self] at e1
      simp only [List.getElem?_cons_zero, Option.some.injEq] at e1 e2
      subst e1 e2
      exact hu.kept hk hty
  · simp only [Value.ownBlock, Option.some.injEq] at e
    subst e
    rcases hl with hl | hl
    · exact h.d2 g hD hl
    · have := h.sh.lt g hD; omega
  · have := (rowS_lt h.r2 k e).1; omega
end

end Go.Proofs.Ytdbohcdjamhdjaa
