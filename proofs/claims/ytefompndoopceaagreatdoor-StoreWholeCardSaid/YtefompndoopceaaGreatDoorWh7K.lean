import Derived.Test.YtefompndoopceaaGreatDoorAw7K
import Derived.Test.YtefompndoopceaaGreatDoorRw7K
/- For StoreWhole: rows of commits, and what is there behind a loss. -/
set_option linter.unusedVariables false
namespace Go.Proofs.YtefompndoopceaaGreatDoor
open Go.RowKit

theorem nodup_le : ∀ (l m : List Int), l.Nodup → (∀ x ∈ l, x ∈ m) → l.length ≤ m.length
  | [], m, _, _ => Nat.zero_le _
  | x :: r, m, hn, hs => by
    have hx : x ∈ m := hs x (by simp)
    have hn' := List.nodup_cons.1 hn
    have := nodup_le r (m.erase x) hn'.2 fun y hy => (List.mem_erase_of_ne (fun e => hn'.1 (by rw [← e]; exact hy))).2 (hs y (List.mem_cons_of_mem _ hy))
    rw [List.length_erase_of_mem hx] at this
    have hp : 0 < m.length := List.length_pos_of_mem hx
    rw [List.length_cons]
    omega

/-- Pages of which L are committed, Q new. -/
structure WhP (L Q : List Int) (P : List Pag) : Prop where
  len : P.length = 30
  st : ∀ q : Nat, 1 ≤ q → q < 30 → stOf P q = if (q : Int) ∈ L then 2 else if (q : Int) ∈ Q then 1 else 0
  rg : ∀ x ∈ Q, ∃ q : Nat, x = (q : Int) ∧ 1 ≤ q ∧ q < 30
  rgL : ∀ x ∈ L, ∃ q : Nat, x = (q : Int) ∧ 1 ≤ q ∧ q < 30

theorem WhP.free {L Q : List Int} {P : List Pag} (k : WhP L Q P) (hL : L.length ≤ 5) (hQ : Q.length ≤ 4) : ∃ q, freeP P = some q := by
  cases hf : freeP P with
  | some q => exact ⟨q, rfl⟩
  | none =>
    exfalso
    have h1 : ∀ x ∈ upTo 29, x ∈ L ++ Q := fun x hx => by
      simp only [upTo, List.mem_map, List.mem_range] at hx
      obtain ⟨j, hj, rfl⟩ := hx
      have h2 := freeP_none hf (j + 1) (by omega) (by rw [k.len]; omega)
      rw [k.st (j + 1) (by omega) (by omega)] at h2
      rw [List.mem_append]
      by_cases e1 : ((j + 1 : Nat) : Int) ∈ L
      · exact .inl e1
      · rw [if_neg e1] at h2
        by_cases e2 : ((j + 1 : Nat) : Int) ∈ Q
        · exact .inr e2
        · rw [if_neg e2] at h2; exact absurd rfl h2
    have hn : (upTo 29).Nodup := by decide
    have := nodup_le _ _ hn h1
    rw [upTo_length, List.length_append] at this
    omega

theorem WhP.fresh {L Q : List Int} {P : List Pag} (k : WhP L Q P) {q : Nat} (hf : freeP P = some q) : 1 ≤ q ∧ q < 30 ∧ (q : Int) ∉ L ∧ (q : Int) ∉ Q := by
  obtain ⟨h1, h2, h3⟩ := freeP_some hf
  rw [k.len] at h2
  rw [k.st q h1 h2] at h3
  refine ⟨h1, h2, fun e => ?_, fun e => ?_⟩
  · rw [if_pos e] at h3; cases h3
  · by_cases e1 : (q : Int) ∈ L
    · rw [if_pos e1] at h3; cases h3
    · rw [if_neg e1, if_pos e] at h3; cases h3
theorem WhP.add {L Q : List Int} {P : List Pag} (k : WhP L Q P) {q : Nat} (hf : freeP P = some q) (t : List UInt8) : WhP L (Q ++ [(q : Int)]) (P.set q (1, t)) := by
  obtain ⟨h1, h2, h3, h4⟩ := k.fresh hf
  refine ⟨by rw [List.length_set]; exact k.len, fun r r1 r2 => ?_, fun x hx => ?_, k.rgL⟩
  · rw [stOf_set _ _ _ _ (by rw [k.len]; exact h2), k.st r r1 r2]
    by_cases e : r = q
    · subst e
      rw [if_pos rfl, if_neg h3, if_pos (by simp)]
    · rw [if_neg e]
      by_cases e1 : (r : Int) ∈ L
      · rw [if_pos e1, if_pos e1]
      · rw [if_neg e1, if_neg e1]
        refine ite_iff ⟨fun h => List.mem_append_left _ h, fun h => ?_⟩ _ _
        rcases List.mem_append.1 h with h | h
        · exact h
        · have : (r : Int) = (q : Int) := by simpa using h
          omega
  · rcases List.mem_append.1 hx with h | h
    · exact k.rg x h
    · have : x = (q : Int) := by simpa using h
      exact ⟨q, this, h1, h2⟩
theorem WhP.used {L Q : List Int} {P : List Pag} (k : WhP L Q P) : Q.all (usedB P) = true := by
  rw [List.all_eq_true]
  intro x hx
  obtain ⟨q, rfl, h1, h2⟩ := k.rg x hx
  refine usedB_of h1 (by rw [k.len]; exact h2) ?_
  rw [k.st q h1 h2]
  by_cases e : (q : Int) ∈ L
  · rw [if_pos e]; decide
  · rw [if_neg e, if_pos hx]; decide
theorem WhP.commit {L Q : List Int} {P : List Pag} (k : WhP L Q P) : WhP Q [] (sweepP (keepP P Q) []) := by
  refine ⟨by rw [commit_length]; exact k.len, fun q h1 h2 => ?_, (fun x hx => by cases hx), k.rg⟩
  have h3 : stOf P q ≤ 2 := by
    rw [k.st q h1 h2]
    split
    · exact Nat.le_refl _
    · split <;> decide
  rw [commit_st P Q q h3, k.len, if_neg (show ¬ (q : Int) ∈ ([] : List Int) by simp)]
  exact ite_iff ⟨fun h => h.2.2, fun h => ⟨h2, h1, h⟩⟩ _ _
theorem noP_wh : WhP [] [] (noP 30) := ⟨noP_length 30, fun q _ _ => by rw [noP_st]; simp, (fun x hx => by cases hx), (fun x hx => by cases hx)⟩

/-- The keys of the pages of a commit. -/
def KOk (K : Nat → Nat) (L : List Int) (c : Nat) : Prop := ∀ t, t < L.length → K (L.getD t 0).toNat = c + t
theorem KOk.add {K : Nat → Nat} {Q : List Int} {c q k : Nat} (h : KOk K Q c) (hr : ∀ x ∈ Q, ∃ q : Nat, x = (q : Int) ∧ 1 ≤ q ∧ q < 30) (hq : (q : Int) ∉ Q) (hk : k = c + Q.length) : KOk (fun r => if r = q then k else K r) (Q ++ [(q : Int)]) c := fun t ht => by
  rw [List.length_append] at ht
  rcases Nat.lt_or_ge t Q.length with h1 | h1
  · have e : (Q ++ [(q : Int)]).getD t 0 = Q.getD t 0 := by
      rw [List.getD_eq_getElem?_getD, List.getD_eq_getElem?_getD, List.getElem?_append_left h1]
    rw [e]
    have hm : Q.getD t 0 ∈ Q := by
      rw [List.getD_eq_getElem?_getD, List.getElem?_eq_getElem h1]
      exact List.getElem_mem h1
    obtain ⟨r, hr', _⟩ := hr _ hm
    have hne : (Q.getD t 0).toNat ≠ q := fun e2 => hq (by rw [← e2, hr', show ((r : Int)).toNat = r by omega, ← hr']; exact hm)
    show (if _ = q then k else K _) = _
    rw [if_neg hne]
    exact h t h1
  · have e : (Q ++ [(q : Int)]).getD t 0 = (q : Int) := by
      have ht2 : t = Q.length := by simp at ht; omega
      rw [List.getD_eq_getElem?_getD, ht2, List.getElem?_append_right (Nat.le_refl _), Nat.sub_self]
      rfl
    rw [e, show ((q : Int)).toNat = q by omega]
    show (if q = q then k else K q) = _
    rw [if_pos rfl, hk]
    simp at ht
    omega
theorem KOk.keep {K : Nat → Nat} {L Q : List Int} {c q k : Nat} (h : KOk K L c) (hr : ∀ x ∈ L, ∃ q : Nat, x = (q : Int) ∧ 1 ≤ q ∧ q < 30) (hq : (q : Int) ∉ L) : KOk (fun r => if r = q then k else K r) L c := fun t ht => by
  have hm : L.getD t 0 ∈ L := by
    rw [List.getD_eq_getElem?_getD, List.getElem?_eq_getElem ht]
    exact List.getElem_mem ht
  obtain ⟨r, hr', _⟩ := hr _ hm
  have hne : (L.getD t 0).toNat ≠ q := fun e2 => hq (by rw [← e2, hr', show ((r : Int)).toNat = r by omega, ← hr']; exact hm)
  show (if _ = q then k else K _) = _
  rw [if_neg hne]
  exact h t ht

/-! ### power that goes and comes -/
section
variable {A : Ad} {N : Nat} {p : Pw} {S : List (List UInt8)} {M : Int → Option (List UInt8)} {h : Hd} {a : Nat} {P : List Pag} {W : World}
theorem svFuse (k : Sv A N p S M h a P W) (n : Int) (hn : n ≤ 9223372036854775807) :
    Calls Tryz.prog 37 #[.pointer (some ⟨A.m, 0, none⟩), .int .i64 n] W fun e w' => e = .returned (.tuple #[]) ∧ Sv A N ⟨p.on, p.lives, p.uses, n⟩ S M h a P w' ∧ Fr A W w' := by
  refine (mFuse A.m _ _ _ _ n W k.isP.1).mono ?_
  rintro e w' ⟨rfl, h1, h2⟩
  obtain ⟨n1, n2, n3⟩ := k.isP.1.ne k.isD
  exact ⟨rfl, k.dev (k.isD.kept h2 n1.symm n2.symm n3.symm) ⟨h1, hn⟩ rfl (h2.mono fun k hk => hk.2.1)⟩
theorem svCut (k : Sv A N p S M h a P W) :
    Calls Tryz.prog 38 #[.pointer (some ⟨A.m, 0, none⟩)] W fun e w' => e = .returned (.tuple #[]) ∧ Sv A N p.cut S M h a P w' ∧ Fr A W w' := by
  refine (mCut A.m _ _ _ _ W k.isP.1).mono ?_
  rintro e w' ⟨rfl, h1, h2⟩
  obtain ⟨n1, n2, n3⟩ := k.isP.1.ne k.isD
  exact ⟨rfl, k.dev (k.isD.kept h2 n1.symm n2.symm n3.symm) ⟨h1, k.isP.2⟩ rfl (h2.mono fun k hk => hk.2.1)⟩
theorem svCome (k : Sv A N p S M h a P W) (hoff : p.on = false) :
    Calls Tryz.prog 40 #[.pointer (some ⟨A.m, 0, none⟩)] W fun e w' => e = .returned (.tuple #[]) ∧ (∃ p', p'.on = true ∧ Sv A N p' S M h a P w') ∧ Fr A W w' := by
  have hp := k.isP.1
  rw [hoff] at hp
  refine (mComeOff A.m _ _ _ W hp).mono ?_
  rintro e w' ⟨rfl, h1, h2⟩
  obtain ⟨n1, n2, n3⟩ := k.isP.1.ne k.isD
  obtain ⟨q1, q2⟩ := k.dev (p' := ⟨true, wrap64 (p.lives + 1), p.uses, -1⟩) (k.isD.kept h2 n1.symm n2.symm n3.symm) ⟨h1, by show (-1 : Int) ≤ 9223372036854775807; decide⟩ rfl (h2.mono fun k hk => hk.2.1)
  exact ⟨rfl, ⟨_, rfl, q1⟩, q2⟩
theorem svSettle (k : Sv A N p S M h a P W) (hoff : p.on = false) (l : List UInt8) (hl : l.length ≤ maxLen) :
    Calls Tryz.prog 39 #[.pointer (some ⟨A.d, 0, none⟩), .string ⟨l.toArray⟩] W fun e w' => e = .returned (.int .i64 0) ∧ Sv A 0 p (settle l M (places S.length M) 0 S) (fun _ => none) h a P w' ∧ Fr A W w' := by
  refine (dSettle A.d A.m A.s A.b N p S M l W k.isD k.isP hoff hl).mono ?_
  rintro e w' ⟨rfl, h1, h2⟩
  obtain ⟨n1, n2, n3⟩ := k.isP.1.ne k.isD
  exact ⟨rfl, k.dev h1 (k.isP.kept h2 ⟨k.isP.lt, n2, n3⟩) (settle_length _ _ _ _ _) (h2.mono fun k hk => ⟨hk.1, hk.2.2.1, hk.2.2.2⟩)⟩
end

/-- A slice in memory that the law made, and what it reads as. -/
def SlAt (V1 : World) (v : Value) (L : List Int) (W : World) : Prop := ∃ g cap, v = .slice (some ⟨g, 0, none⟩) L.length cap ∧ W.ownsRow V1.heap.size 3 1 v L.length (L.map encZ)

/-- Between two commits. -/
def WhI (V1 : World) (A : Ad) (i : Nat) (vo : Value) (W : World) : Prop :=
  ∃ (p : Pw) (S : List (List UInt8)) (h : Hd) (a : Nat) (P : List Pag) (K : Nat → Nat) (L : List Int) (vs : List Value), Sv A 0 p S (fun _ => none) h a P W ∧ S.length = 480 ∧ WhP L [] P ∧ L.length ≤ 5 ∧ Inv h a P S K ∧ KOk K L (100 * (i - 1)) ∧ h.gen = i + 1 ∧ (i = 0 → h.root = 0) ∧ (0 < i → 0 < L.length ∧ h.root = L.getD 0 0) ∧
    h.slow = 9 ∧ h.fast = 3 ∧ h.chunk = 1 ∧
    vs.length = i + 1 ∧ W.ownsRow V1.heap.size 40 1 vo (i + 1) vs ∧ SlAt V1 (vs.getD i (.slice none 0 0)) L W ∧ KeptIn (· < V1.heap.size) V1 W

/-- Behind the rows of commits: what is there, whatever is lost. -/
def WhT (V1 : World) (A : Ad) (sure ln : Nat) (vo : Value) (W : World) : Prop :=
  ∃ (N : Nat) (p : Pw) (S : List (List UInt8)) (M : Int → Option (List UInt8)) (h : Hd) (a : Nat) (P : List Pag) (vs : List Value), Sv A N p S M h a P W ∧ S.length = 480 ∧ vs.length = ln ∧ W.ownsRow V1.heap.size 40 1 vo ln vs ∧ KeptIn (· < V1.heap.size) V1 W ∧
    ∀ S2, (∀ i : Nat, S2.getD i [] = S.getD i [] ∨ ∃ v, M (i : Int) = some v ∧ S2.getD i [] = v) → ∃ t, (t = sure ∨ t = sure + 1) ∧ t < ln ∧ ∃ (h0 : Hd) (a0 : Nat), newH (S2.getD 0 []) (S2.getD 1 []) = (h0, (a0 : Int), true) ∧ h0.gen = t + 1 ∧
      ((t = 0 ∧ h0.root = 0) ∨ ∃ L : List Int, 0 < t ∧ 0 < L.length ∧ L.length ≤ 5 ∧ h0.root = L.getD 0 0 ∧ SlAt V1 (vs.getD t (.slice none 0 0)) L W ∧ (∀ x ∈ L, ∃ q : Nat, x = (q : Int) ∧ 1 ≤ q ∧ q < 30) ∧ ∀ j, j < L.length → pageB S2 (L.getD j 0).toNat = bytesK (100 * (t - 1) + j))

theorem getD_mem (L : List Int) (j : Nat) (h : j < L.length) : L.getD j 0 ∈ L := by
  rw [List.getD_eq_getElem?_getD, List.getElem?_eq_getElem h]
  exact List.getElem_mem h

theorem rows_pages {S : List (List UInt8)} {K : Nat → Nat} {L : List Int} {c : Nat} (hK : KOk K L c) (h : ∀ x ∈ L, ∃ q : Nat, x = (q : Int) ∧ 1 ≤ q ∧ q < 30) (hp : ∀ q : Nat, (q : Int) ∈ L → pageB S q = bytesK (K q)) : ∀ j, j < L.length → pageB S (L.getD j 0).toNat = bytesK (c + j) := fun j hj => by
  have hm := getD_mem L j hj
  obtain ⟨q, hq, _⟩ := h _ hm
  have e : (L.getD j 0).toNat = q := by rw [hq]; omega
  rw [e, hp q (by rw [← hq]; exact hm), ← hK j hj, e]

/-- When all commits went well. -/
theorem whT_done {V1 : World} {A : Ad} {i : Nat} {vo : Value} {W : World} (k : WhI V1 A i vo W) : WhT V1 A i (i + 1) vo W := by
  obtain ⟨p, S, h, a, P, K, L, vs, k1, k2, k3, k4, k5, k6, k7, k8, k9, ks, kf, kc, k10, k11, k12, k13⟩ := k
  refine ⟨0, p, S, _, h, a, P, vs, k1, k2, k10, k11, k13, fun S2 hS2 => ⟨i, .inl rfl, Nat.lt_succ_self _, h, a, ?_, k7, ?_⟩⟩
  · have e : ∀ x : Nat, S2.getD x [] = S.getD x [] := fun x => by
      rcases hS2 x with h | ⟨v, h, _⟩
      · exact h
      · cases h
    rw [e, e]
    exact k5.heads.newest k1.good k1.ha
  · by_cases hi : i = 0
    · exact .inl ⟨hi, k8 hi⟩
    · obtain ⟨q1, q2⟩ := k9 (by omega)
      refine .inr ⟨L, by omega, q1, k4, q2, k12, k3.rgL, rows_pages k6 k3.rgL fun q hq => ?_⟩
      obtain ⟨q', hq', r1, r2⟩ := k3.rgL _ hq
      obtain rfl : q = q' := by omega
      have e : pageB S2 q = pageB S q := pageB_congr q fun x _ => by
        rcases hS2 (16 * q + x) with h | ⟨v, h, _⟩
        · exact h
        · cases h
      rw [e]
      exact k5.kept q r1 (by rw [k3.len]; exact r2) (by rw [k3.st q r1 r2, if_pos hq])

end Go.Proofs.YtefompndoopceaaGreatDoor
