import Derived.Test.YtkgjmejgkffbdaaGreatDoorRef7dK
import Derived.Test.YtkgjmejgkffbdaaGreatDoorAw7K
/- StoreExact of layer 7: a store and the document's store side by side: what each deed leaves. -/
set_option linter.unusedVariables false
namespace Go.Proofs.YtkgjmejgkffbdaaGreatDoor
open Go.RowKit

theorem svX {A : Ad} {N : Nat} {p : Pw} {S : List (List UInt8)} {M : Int → Option (List UInt8)} {h : Hd} {a : Nat} {P : List Pag} {W W' : World} {X : Nat → Prop} (k : Sv A N p S M h a P W) (hk : KeptIn X W W') (hX : ∀ j, A.has j → X j) : Sv A N p S M h a P W' :=
  ⟨k.isD.kept hk (hX _ (.inl rfl)) (hX _ (.inr (.inr (.inl rfl)))) (hX _ (.inr (.inr (.inr (.inl rfl))))), k.isP.kept hk (hX _ (.inr (.inl rfl))), k.isS.kept hk (hX _ (.inr (.inr (.inr (.inr (.inl rfl)))))) (hX _ (.inr (.inr (.inr (.inr (.inr rfl)))))), k.len, k.two, k.good, k.ha, k.sts, k.txs⟩

theorem cellsL_mem (P : List (Option Nat)) (v : Value) (h : v ∈ cellsL P) : v = .int .i64 0 ∨ ∃ o, v = nodV o := by
  induction P with
  | nil => cases h
  | cons g r ih =>
    rw [cellsL, List.mem_cons, List.mem_cons] at h
    rcases h with rfl | rfl | h
    · exact .inl rfl
    · exact .inr ⟨_, rfl⟩
    · exact ih h

theorem ps_apart7 {R : R7} {n : Nat} {K F : Nat → Bool} {L : Nat → Option Nat} {h : Hd} {W : World} (k : IsR7 R n K F L h W) {c : Option Addr} {ps : Pairs} (hq : IsPs W c ps) (hp : 0 < ps.length) (b off : Nat) (e : c = some ⟨b, off, none⟩) : ¬ R.has b := by
  obtain ⟨b', off', e', hlt, hc⟩ := hq.cells hp
  rw [e] at e'
  simp only [Option.some.injEq, Addr.mk.injEq, and_true] at e'
  obtain ⟨rfl, rfl⟩ := e'
  obtain ⟨u0, u1⟩ := hc 0 hp
  rw [Nat.zero_mul, Nat.add_zero] at u0 u1
  have hbl : ∀ {g : Nat} {f : Nat → Bool}, BlRow g (blL n f) W → W.cell? ⟨g, off, none⟩ ≠ some (.int .u64 (keyAt ps 0)) := fun {g f} hr h0 => by
    rw [cell_of_row _ _ _ _ _ _ (show W.heap[g]? = _ from hr)] at h0
    have hm := Array.mem_of_getElem? h0
    have hm2 : Value.int .u64 (keyAt ps 0) ∈ (blL n f).map Value.bool := by rw [List.mem_toArray] at hm; exact hm
    rw [List.mem_map] at hm2
    obtain ⟨x, _, hx⟩ := hm2
    cases hx
  rintro (rfl | rfl | rfl | rfl)
  · rw [cell_of_row _ _ _ _ _ _ k.hu] at u0 u1
    rcases off with _ | _ | _ | _ | _ | _ | _ | _ | _ | off <;> simp at u0 u1
  · exact hbl k.hk u0
  · exact hbl k.hf u0
  · rw [cell_of_row _ _ _ _ _ _ k.hd] at u0
    have hm := Array.mem_of_getElem? u0
    rcases cellsL_mem _ _ (by simpa using hm) with hx | ⟨o, hx⟩
    · cases hx
    · cases o <;> cases hx

theorem ps_r7 {R : R7} {n : Nat} {K F : Nat → Bool} {L : Nat → Option Nat} {h : Hd} {W W' : World} (k : IsR7 R n K F L h W) {c : Option Addr} {ps : Pairs} (hq : IsPs W c ps) (hf : FrR R W W') : IsPs W' c ps :=
  ⟨hq.len, hq.fits, fun hp => by
    obtain ⟨b, off, e, hlt, hc⟩ := hq.cells hp
    have hn := ps_apart7 k hq hp b off e
    exact ⟨b, off, e, Nat.lt_of_lt_of_le hlt hf.size, fun i hi => ⟨(World.cell?_of_block (a := ⟨b, off + i * 2, none⟩) (hf.block b ⟨hlt, hn⟩)).trans (hc i hi).1, (World.cell?_of_block (a := ⟨b, off + i * 2 + 1, none⟩) (hf.block b ⟨hlt, hn⟩)).trans (hc i hi).2⟩⟩⟩

/-- A store and the document's store. -/
structure Ex7 (w : World) (A : Ad) (R : R7) (n : Nat) (p : Pw) (S : List (List UInt8)) (h : Hd) (a : Nat) (P : List Pag) (K F : Nat → Bool) (L : Nat → Option Nat) (kk : Nat → Nat) (W : World) : Prop where
  sv : Sv A 0 p S (fun _ => none) h a P W
  sure : p.sure
  r7 : IsR7 R n K F L h W
  lo : Lo w A
  rlo : ∀ j, R.has j → w.heap.size ≤ j
  kept : KeptIn (· < w.heap.size) w W
  len : P.length = n
  inv : Inv h a P S kk
  st : ∀ q, 1 ≤ q → q < n → F q = decide (stOf P q = 1) ∧ K q = decide (stOf P q = 2)
  nd : ∀ q, 1 ≤ q → q < n → stOf P q ≠ 0 → ∃ g, L q = some g ∧ IsPs W (some ⟨g, 0, none⟩) (psK (kk q)) ∧ kk q < 18446744073709551616

section
variable {w : World} {A : Ad} {R : R7} {n : Nat} {p p1 : Pw} {S S1 : List (List UInt8)} {h h1 : Hd} {a a1 : Nat} {P P1 : List Pag} {K F K2 F2 : Nat → Bool} {L L2 : Nat → Option Nat} {kk kk2 : Nat → Nat} {W W' W1 W2 : World}
theorem Ex7.rA (k : Ex7 w A R n p S h a P K F L kk W) : ∀ j, R.has j → ¬ A.has j := by
  rintro j (rfl | rfl | rfl | rfl)
  · exact cells_apart k.sv k.r7.hu (by decide) (by decide) (by decide) (by decide) (by decide)
  · exact cells_apart k.sv (show W.heap[R.k]? = _ from k.r7.hk) (by decide) (by decide) (by decide) (by decide) (by decide)
  · exact cells_apart k.sv (show W.heap[R.f]? = _ from k.r7.hf) (by decide) (by decide) (by decide) (by decide) (by decide)
  · exact cells_apart k.sv k.r7.hd (by decide) (by decide) (by decide) (by decide) (by decide)
theorem Ex7.old (k : Ex7 w A R n p S h a P K F L kk W) (hk : KeptIn (· < W.heap.size) W W') : Ex7 w A R n p S h a P K F L kk W' :=
  ⟨k.sv.old hk, k.sure, k.r7.old hk, k.lo, k.rlo, k.kept.step hk, k.len, k.inv, k.st, fun q h1 h2 h3 => by
    obtain ⟨g, e1, e2, e3⟩ := k.nd q h1 h2 h3
    exact ⟨g, e1, e2.old hk, e3⟩⟩
theorem Ex7.mid (k : Ex7 w A R n p S h a P K F L kk W) (f : Fr A W W1) : IsR7 R n K F L h W1 :=
  k.r7.kept f fun j hj => ⟨k.r7.lt j hj, k.rA j hj⟩
theorem Ex7.fin (k : Ex7 w A R n p S h a P K F L kk W) (sv1 : Sv A 0 p1 S1 (fun _ => none) h1 a1 P1 W1) (f1 : Fr A W W1) (r2 : IsR7 R n K2 F2 L2 h1 W2) (f2 : FrR R W1 W2) (hs : p1.sure) (hl : P1.length = n) (inv : Inv h1 a1 P1 S1 kk2)
    (st : ∀ q, 1 ≤ q → q < n → F2 q = decide (stOf P1 q = 1) ∧ K2 q = decide (stOf P1 q = 2))
    (nd : ∀ q, 1 ≤ q → q < n → stOf P1 q ≠ 0 → ∃ g, L2 q = some g ∧ IsPs W1 (some ⟨g, 0, none⟩) (psK (kk2 q)) ∧ kk2 q < 18446744073709551616) : Ex7 w A R n p1 S1 h1 a1 P1 K2 F2 L2 kk2 W2 :=
  ⟨svX sv1 f2 fun j hj => ⟨sv1.lts j hj, fun hr => k.rA j hr hj⟩, hs, r2, k.lo, k.rlo,
    (k.lo.fr k.kept f1).trans (f2.mono fun j hj => ⟨Nat.lt_of_lt_of_le hj (k.lo.fr k.kept f1).size, fun hr => Nat.lt_irrefl _ (Nat.lt_of_lt_of_le hj (k.rlo j hr))⟩), hl, inv, st, fun q q1 q2 q3 => by
      obtain ⟨g, e1, e2, e3⟩ := nd q q1 q2 q3
      exact ⟨g, e1, ps_r7 (k.mid f1) e2 f2, e3⟩⟩
theorem Ex7.ndF (k : Ex7 w A R n p S h a P K F L kk W) (f : Fr A W W1) (q : Nat) (q1 : 1 ≤ q) (q2 : q < n) (q3 : stOf P q ≠ 0) : ∃ g, L q = some g ∧ IsPs W1 (some ⟨g, 0, none⟩) (psK (kk q)) ∧ kk q < 18446744073709551616 := by
  obtain ⟨g, e1, e2, e3⟩ := k.nd q q1 q2 q3
  exact ⟨g, e1, ps_fr k.sv e2 f, e3⟩

/-- An addition. -/
theorem Ex7.add (k : Ex7 w A R n p S h a P K F L kk W) {q x g : Nat} (hq : freeP P = some q) (hx : x < 18446744073709551616) (sv1 : Sv A 0 p S (fun _ => none) h a (P.set q (1, bytesN 0 (psK x))) W1) (f1 : Fr A W W1) (hps : IsPs W1 (some ⟨g, 0, none⟩) (psK x))
    (r2 : IsR7 R n K (fun r => if r = q then true else F r) (fun r => if r = q then some g else L r) h W2) (f2 : FrR R W1 W2) :
    Ex7 w A R n p S h a (P.set q (1, bytesN 0 (psK x))) K (fun r => if r = q then true else F r) (fun r => if r = q then some g else L r) (fun r => if r = q then x else kk r) W2 := by
  obtain ⟨h1, h2, h3⟩ := freeP_some hq
  refine k.fin sv1 f1 r2 f2 k.sure (by rw [List.length_set]; exact k.len) (k.inv.add q x h2 h3) (fun r r1 r2 => ?_) fun r r1 r2 r3 => ?_
  · rw [stOf_set P q r _ h2]
    obtain ⟨s1, s2⟩ := k.st r r1 r2
    by_cases e : r = q
    · subst e
      rw [h3] at s2
      simp only [if_true]
      exact ⟨rfl, s2⟩
    · rw [if_neg e, if_neg e]
      exact ⟨s1, s2⟩
  · rw [stOf_set P q r _ h2] at r3
    by_cases e : r = q
    · subst e
      simp only [if_true]
      exact ⟨g, rfl, hps, hx⟩
    · rw [if_neg e] at r3
      simp only [if_neg e]
      exact k.ndF f1 r r1 r2 r3
theorem Ex7.free (k : Ex7 w A R n p S h a P K F L kk W) {q : Nat} (hq : freeP P = some q) : 1 ≤ q ∧ q < n ∧ K q = false ∧ F q = false ∧ ∀ i, 1 ≤ i → i < q → K i = true ∨ F i = true := by
  obtain ⟨h1, h2, h3⟩ := freeP_some hq
  rw [k.len] at h2
  obtain ⟨s1, s2⟩ := k.st q h1 h2
  rw [h3] at s1 s2
  refine ⟨h1, h2, s2, s1, fun i i1 i2 => ?_⟩
  have h4 := freeP_first hq i i1 i2
  obtain ⟨t1, t2⟩ := k.st i i1 (by omega)
  have h5 := k.sv.sts i
  rcases (show stOf P i = 1 ∨ stOf P i = 2 by omega) with e | e
  · right; rw [t1, e]; rfl
  · left; rw [t2, e]; rfl
theorem Ex7.full (k : Ex7 w A R n p S h a P K F L kk W) (hq : freeP P = none) : ∀ i, 1 ≤ i → i < n → K i = true ∨ F i = true := fun i i1 i2 => by
  have h4 := freeP_none hq i i1 (by rw [k.len]; exact i2)
  obtain ⟨t1, t2⟩ := k.st i i1 i2
  have h5 := k.sv.sts i
  rcases (show stOf P i = 1 ∨ stOf P i = 2 by omega) with e | e
  · right; rw [t1, e]; rfl
  · left; rw [t2, e]; rfl

/-- Sweep. -/
theorem Ex7.sweep (k : Ex7 w A R n p S h a P K F L kk W) (l : List Int) (sv1 : Sv A 0 p S (fun _ => none) h a (sweepP P l) W1) (f1 : Fr A W W1) (r2 : IsR7 R n K (swpF l F) L h W2) (f2 : FrR R W1 W2) :
    Ex7 w A R n p S h a (sweepP P l) K (swpF l F) L kk W2 := by
  have hst : ∀ q, 1 ≤ q → stOf (sweepP P l) q = if stOf P q = 1 ∧ ¬ (q : Int) ∈ l then 0 else stOf P q := fun q q1 => by
    rw [sweepP_st]
    exact ite_iff ⟨fun h => ⟨h.1, fun e => h.2 ⟨q1, e⟩⟩, fun h => ⟨h.1, fun e => h.2 e.2⟩⟩ _ _
  refine k.fin sv1 f1 r2 f2 k.sure (by rw [sweepP_length]; exact k.len) (k.inv.sweep l) (fun q q1 q2 => ?_) fun q q1 q2 q3 => ?_
  · obtain ⟨s1, s2⟩ := k.st q q1 q2
    rw [hst q q1, s2]
    unfold swpF
    rw [if_neg (show ¬ q = 0 by omega), s1]
    by_cases e1 : stOf P q = 1
    · by_cases e2 : (q : Int) ∈ l
      · simp [e1, e2]
      · simp [e1, e2]
    · simp [e1]
  · refine k.ndF f1 q q1 q2 fun e => q3 ?_
    rw [hst q q1, e]
    split <;> rfl
/-- Keep of committed pages. -/
theorem Ex7.keep (k : Ex7 w A R n p S h a P K F L kk W) (l : List Int) (hl : ∀ q : Nat, 1 ≤ q → (q : Int) ∈ l → stOf P q = 2) (sv1 : Sv A 0 p S (fun _ => none) h a (keepP P l) W1) (f1 : Fr A W W1) (r2 : IsR7 R n (kepK l K) (kepF l F) L h W2) (f2 : FrR R W1 W2) :
    Ex7 w A R n p S h a (keepP P l) (kepK l K) (kepF l F) L kk W2 := by
  have hst : ∀ q, 1 ≤ q → q < n → stOf (keepP P l) q = if (q : Int) ∈ l then 2 else if stOf P q = 2 then 0 else stOf P q := fun q q1 q2 => by
    rw [keepP_st]
    exact ite_iff ⟨fun h => h.2.2, fun h => ⟨by rw [k.len]; exact q2, q1, h⟩⟩ _ _
  refine k.fin sv1 f1 r2 f2 k.sure (by rw [keepP_length]; exact k.len) (k.inv.keep l hl) (fun q q1 q2 => ?_) fun q q1 q2 q3 => ?_
  · obtain ⟨s1, s2⟩ := k.st q q1 q2
    rw [hst q q1 q2]
    unfold kepF kepK
    rw [if_neg (show ¬ q = 0 by omega), if_neg (show ¬ q = 0 by omega), s1]
    by_cases e2 : (q : Int) ∈ l
    · have e3 := hl q q1 e2
      simp [e2, e3]
    · by_cases e1 : stOf P q = 2
      · simp [e2, e1]
      · simp [e2, e1]
  · refine k.ndF f1 q q1 q2 fun e => q3 ?_
    rw [hst q q1 q2, e]
    by_cases e2 : (q : Int) ∈ l
    · have := hl q q1 e2
      omega
    · rw [if_neg e2]
      rfl
/-- A commit. -/
theorem Ex7.commit (k : Ex7 w A R n p S h a P K F L kk W) {l : List Int} {root : Int} {e : Ending} (hok : mayC h P root l = true) (hc : CommS A W p S h a P root l e W1) : e = .returned (.int .i64 0) ∧ ∃ (p1 : Pw) (S1 : List (List UInt8)) (a1 : Nat), Sv A 0 p1 S1 (fun _ => none) (nextH h root) a1 (sweepP (keepP P l) []) W1 ∧ Fr A W W1 ∧
    ∀ W1' W2, KeptIn (· < W1.heap.size) W1 W1' → IsR7 R n (kepK l K) (comF F) L (nextH h root) W2 → FrR R W1' W2 → Ex7 w A R n p1 S1 (nextH h root) a1 (sweepP (keepP P l) []) (kepK l K) (comF F) L kk W2 := by
  obtain ⟨e', N', p', S', M', h', a', P', rfl, hv', hf, hN, hl, ho, hsr⟩ := hc
  obtain ⟨rfl, hps⟩ := hsr k.sure
  obtain rfl := hN rfl
  rcases ho with ⟨_, rfl, rfl, rfl, rfl, o1, o2, o3⟩ | x | x
  · have hok' := hok
    unfold mayC at hok'
    simp only [Bool.and_eq_true, decide_eq_true_eq] at hok'
    have hu : l.all (usedB P) = true := hok'.1.2
    refine ⟨rfl, p', S', 1 - a, hv', hf, fun W1' W2 hk r2 f2 => ?_⟩
    have hst : ∀ q, 1 ≤ q → q < n → stOf (sweepP (keepP P l) []) q = if (q : Int) ∈ l then 2 else 0 := fun q q1 q2 => by
      rw [commit_st P l q (k.sv.sts q)]
      exact ite_iff ⟨fun h => h.2.2, fun h => ⟨by rw [k.len]; exact q2, q1, h⟩⟩ _ _
    refine k.fin (hv'.old hk) (hf.trans' (Fr.of_old hk)) r2 f2 hps (by rw [commit_length]; exact k.len) (k.inv.commit k.sv.plen.2.1 k.sv.two k.sv.sts k.sv.ha k.sv.good hu o1 o2 o3) (fun q q1 q2 => ?_) fun q q1 q2 q3 => ?_
    · rw [hst q q1 q2]
      unfold comF kepK
      rw [if_neg (show ¬ q = 0 by omega), if_neg (show ¬ q = 0 by omega)]
      by_cases e2 : (q : Int) ∈ l
      · simp [e2]
      · simp [e2]
    · rw [hst q q1 q2] at q3
      have e2 : (q : Int) ∈ l := by
        by_cases e2 : (q : Int) ∈ l
        · exact e2
        · rw [if_neg e2] at q3; exact absurd rfl q3
      exact k.ndF (hf.trans' (Fr.of_old hk)) q q1 q2 (used_st hu q e2).2.2
  · cases x.1
  · cases x.1
theorem Ex7.used (k : Ex7 w A R n p S h a P K F L kk W) (x : Int) : usedB P x = (decide (1 ≤ x) && decide (x < (n : Int)) && (F x.toNat || K x.toNat)) := by
  unfold usedB holdsB
  rw [k.len]
  by_cases h1 : 1 ≤ x
  · by_cases h2 : x < (n : Int)
    · obtain ⟨s1, s2⟩ := k.st x.toNat (by omega) (by omega)
      rw [s1, s2, decide_eq_true h1, decide_eq_true h2]
      have h5 := k.sv.sts x.toNat
      rcases (show stOf P x.toNat = 0 ∨ stOf P x.toNat = 1 ∨ stOf P x.toNat = 2 by omega) with e | e | e <;> rw [e] <;> rfl
    · rw [decide_eq_false h2, Bool.and_false, Bool.false_and, Bool.false_and]
  · rw [decide_eq_false h1, Bool.false_and, Bool.false_and, Bool.false_and]
theorem Ex7.cnt (k : Ex7 w A R n p S h a P K F L kk W) : cntS P 0 = cntB (fun q => !F q && !K q) n ∧ cntS P 1 = cntB F n := by
  unfold cntS
  rw [k.len]
  refine ⟨cntB_congr fun q q1 q2 => ?_, cntB_congr fun q q1 q2 => ?_⟩
  · obtain ⟨s1, s2⟩ := k.st q q1 q2
    rw [s1, s2]
    have h5 := k.sv.sts q
    rcases (show stOf P q = 0 ∨ stOf P q = 1 ∨ stOf P q = 2 by omega) with e | e | e <;> rw [e] <;> rfl
  · exact (k.st q q1 q2).1.symm
end

end Go.Proofs.YtkgjmejgkffbdaaGreatDoor
