import Derived.Test.YtkgjmejgkffbdaaGreatDoorBg7L
/- What stands in a store and on its device: the mathematics. -/
set_option linter.unusedVariables false
namespace Go.Proofs.YtkgjmejgkffbdaaGreatDoor
open Go.RowKit

/-- The head h stands in sector a; in the other one stands no head, or an older one. -/
def HeadsAt (S : List (List UInt8)) (h : Hd) (a : Nat) : Prop := S.getD a [] = bytesH h ∧ (S.getD (1 - a) [] = zeroS ∨ ∃ h', goodH h' = true ∧ h'.gen < h.gen ∧ S.getD (1 - a) [] = bytesH h')

theorem HeadsAt.newest {S : List (List UInt8)} {h : Hd} {a : Nat} (k : HeadsAt S h a) (hg : goodH h = true) (ha : a ≤ 1) : newH (S.getD 0 []) (S.getD 1 []) = (h, (a : Int), true) := by
  have hz : isH zeroS = false := by
    rw [isH, show goodH (headIn zeroS) = false from by decide]
    simp
  obtain ⟨a1, a2⟩ := isH_bytes h hg
  obtain ⟨h1, h2⟩ := k
  rcases (show a = 0 ∨ a = 1 by omega) with rfl | rfl
  · rw [show 1 - 0 = 1 from rfl] at h2
    rw [h1]
    rcases h2 with h2 | ⟨h', g', lt, h2⟩
    · rw [h2]; exact new_zero h hg
    · rw [h2]; exact (new_two h' h g' hg lt).2
  · rw [show 1 - 1 = 0 from rfl] at h2
    rw [h1]
    rcases h2 with h2 | ⟨h', g', lt, h2⟩
    · rw [h2]
      simp [newH, a1, a2, hz]
    · rw [h2]; exact (new_two h' h g' hg lt).1

/-- What stands in a store and on its device: the heads; each page that isn't free has the node of its key. -/
structure Inv (h : Hd) (a : Nat) (P : List Pag) (S : List (List UInt8)) (K : Nat → Nat) : Prop where
  heads : HeadsAt S h a
  kept : ∀ q, 1 ≤ q → q < P.length → stOf P q = 2 → pageB S q = bytesK (K q)
  fresh : ∀ q, 1 ≤ q → q < P.length → stOf P q = 1 → txOf P q = bytesK (K q)

theorem inv_format (u n : Nat) (h : Hd) (hu : 16 * n ≤ u) (h2 : 2 ≤ n) (K : Nat → Nat) : Inv h 0 (noP n) (formS (List.replicate u zeroS) (fun _ => none) h) K := by
  refine ⟨⟨?_, .inl ?_⟩, fun q _ _ hs => ?_, fun q _ _ hs => ?_⟩
  · rw [formS_at _ _ _ 0 (by simp; omega), if_pos rfl]
  · rw [formS_at _ _ _ 1 (by simp; omega)]
    rfl
  · rw [noP_st] at hs; cases hs
  · rw [noP_st] at hs; cases hs

section
variable {h : Hd} {a : Nat} {P : List Pag} {S : List (List UInt8)} {K : Nat → Nat}
theorem Inv.add (I : Inv h a P S K) (q k : Nat) (hq : q < P.length) (h0 : stOf P q = 0) : Inv h a (P.set q (1, bytesK k)) S (fun r => if r = q then k else K r) := by
  refine ⟨I.heads, fun r h1 h2 h3 => ?_, fun r h1 h2 h3 => ?_⟩
  · rw [stOf_set P q r _ hq] at h3
    rw [List.length_set] at h2
    by_cases e : r = q
    · rw [if_pos e] at h3; cases h3
    · rw [if_neg e] at h3
      show pageB S r = bytesK (if r = q then k else K r)
      rw [if_neg e]
      exact I.kept r h1 h2 h3
  · rw [stOf_set P q r _ hq] at h3
    rw [txOf_set P q r _ hq]
    rw [List.length_set] at h2
    show _ = bytesK (if r = q then k else K r)
    by_cases e : r = q
    · rw [if_pos e, if_pos e]
    · rw [if_neg e] at h3
      rw [if_neg e, if_neg e]
      exact I.fresh r h1 h2 h3
theorem Inv.sweep (I : Inv h a P S K) (l : List Int) : Inv h a (sweepP P l) S K := by
  refine ⟨I.heads, fun q h1 h2 h3 => ?_, fun q h1 h2 h3 => ?_⟩
  · rw [sweepP_length] at h2
    rw [sweepP_st] at h3
    refine I.kept q h1 h2 ?_
    split at h3
    · cases h3
    · exact h3
  · rw [sweepP_length] at h2
    obtain ⟨e1, e2⟩ := sweepP_tx P l q h3
    rw [e1]
    exact I.fresh q h1 h2 e2
/-- Keep of committed pages. -/
theorem Inv.keep (I : Inv h a P S K) (l : List Int) (hl : ∀ q : Nat, 1 ≤ q → (q : Int) ∈ l → stOf P q = 2) : Inv h a (keepP P l) S K := by
  refine ⟨I.heads, fun q h1 h2 h3 => ?_, fun q h1 h2 h3 => ?_⟩
  · rw [keepP_length] at h2
    rw [keepP_st] at h3
    by_cases hc : q < P.length ∧ 1 ≤ q ∧ (q : Int) ∈ l
    · exact I.kept q h1 h2 (hl q h1 hc.2.2)
    · rw [if_neg hc] at h3
      by_cases h4 : stOf P q = 2
      · rw [if_pos h4] at h3; cases h3
      · rw [if_neg h4] at h3; exact absurd h3 h4
  · rw [keepP_length] at h2
    obtain ⟨e1, e2⟩ := keepP_tx P l q h3
    rw [e1]
    exact I.fresh q h1 h2 e2

/-- Of a page that is none of the new ones no sector lies in one. -/
theorem not_inNew {l : List Int} {q : Nat} (hs : stOf P q ≠ 1) (i : Nat) (hi : i < 16) : ¬ inNewI P l (16 * q + i) := by
  rintro ⟨r, _, h1, h2, h3⟩
  obtain rfl : r = q := by omega
  exact hs h1

/-- The page of a number that is committed, behind the writing. -/
theorem page_behind (I : Inv h a P S K) {l : List Int} {S1 : List (List UInt8)} (hlen : 16 * P.length ≤ S.length) (q : Nat) (h1 : 1 ≤ q) (h2 : q < P.length) (h3 : stOf P q = 2 ∨ stOf P q = 1 ∧ (q : Int) ∈ l)
    (o1 : ∀ x, x < S.length → 16 ≤ x → ¬ inNewI P l x → S1.getD x [] = S.getD x []) (o2 : ∀ q : Nat, (q : Int) ∈ l → stOf P q = 1 → ∀ i, i < 16 → S1.getD (16 * q + i) [] = nth (txOf P q) i) : pageB S1 q = bytesK (K q) := by
  rcases h3 with h3 | ⟨h3, h4⟩
  · rw [← I.kept q h1 h2 h3]
    exact pageB_congr q fun i hi => o1 _ (by omega) (by omega) (not_inNew (by omega) i hi)
  · have ht := I.fresh q h1 h2 h3
    have hl : (txOf P q).length = 256 := by rw [ht]; exact bytesK_length _
    rw [pageB_of q (txOf P q) hl (o2 q h4 h3), ht]

/-- Behind a Commit. -/
theorem commit_st (P : List Pag) (l : List Int) (q : Nat) (hs : stOf P q ≤ 2) : stOf (sweepP (keepP P l) []) q = if q < P.length ∧ 1 ≤ q ∧ (q : Int) ∈ l then 2 else 0 := by
  rw [sweepP_st, keepP_st]
  by_cases hc : q < P.length ∧ 1 ≤ q ∧ (q : Int) ∈ l
  · rw [if_pos hc, if_pos hc, if_neg (fun h => by cases h.1)]
  · rw [if_neg hc, if_neg hc]
    by_cases h2 : stOf P q = 2
    · rw [if_pos h2, if_neg (fun h => by cases h.1)]
    · rw [if_neg h2]
      by_cases h1 : stOf P q = 1
      · rw [if_pos ⟨h1, fun h => by cases h.2⟩]
      · rw [if_neg (fun h => h1 h.1)]; omega
theorem commit_length (P : List Pag) (l : List Int) : (sweepP (keepP P l) []).length = P.length := by rw [sweepP_length, keepP_length]

theorem used_st {l : List Int} (hu : l.all (usedB P) = true) (q : Nat) (hq : (q : Int) ∈ l) : 1 ≤ q ∧ q < P.length ∧ stOf P q ≠ 0 := by
  have h1 := List.all_eq_true.1 hu _ hq
  unfold usedB holdsB at h1
  simp only [Bool.and_eq_true, decide_eq_true_eq] at h1
  rw [show ((q : Int)).toNat = q by omega] at h1
  exact ⟨by omega, by omega, h1.2⟩

theorem two_or {l : List Int} {q : Nat} (hq : (q : Int) ∈ l) (h0 : stOf P q ≠ 0) (h2 : stOf P q ≤ 2) : stOf P q = 2 ∨ stOf P q = 1 ∧ (q : Int) ∈ l := by
  by_cases h : stOf P q = 2
  · exact .inl h
  · exact .inr ⟨by omega, hq⟩
/-- What a Commit that went well leaves. -/
theorem Inv.commit (I : Inv h a P S K) {l : List Int} {root : Int} {S' : List (List UInt8)} (hlen : 16 * P.length ≤ S.length) (h2 : 2 ≤ P.length) (hs : ∀ q, stOf P q ≤ 2) (ha : a ≤ 1) (hg : goodH h = true) (hu : l.all (usedB P) = true)
    (o1 : ∀ x, x < S.length → x ≠ 1 - a → ¬ inNewI P l x → S'.getD x [] = S.getD x []) (o2 : S'.getD (1 - a) [] = bytesH (nextH h root)) (o3 : ∀ q : Nat, (q : Int) ∈ l → stOf P q = 1 → ∀ i, i < 16 → S'.getD (16 * q + i) [] = nth (txOf P q) i) :
    Inv (nextH h root) (1 - a) (sweepP (keepP P l) []) S' K := by
  refine ⟨⟨o2, .inr ⟨h, hg, Nat.lt_succ_self _, ?_⟩⟩, fun q h1 h2 h3 => ?_, fun q h1 h2 h3 => ?_⟩
  · rw [show 1 - (1 - a) = a by omega, o1 a (by omega) (by omega) (not_new hu a (by omega))]
    exact I.heads.1
  · rw [commit_length] at h2
    rw [commit_st P l q (hs q)] at h3
    have hc : (q : Int) ∈ l := by
      by_cases hc : q < P.length ∧ 1 ≤ q ∧ (q : Int) ∈ l
      · exact hc.2.2
      · rw [if_neg hc] at h3; cases h3
    obtain ⟨_, _, hne⟩ := used_st hu q hc
    exact page_behind I hlen q h1 h2 (two_or hc hne (hs q)) (fun x hx h16 hn => o1 x hx (by omega) hn) o3
  · rw [commit_st P l q (hs q)] at h3
    split at h3 <;> cases h3

theorem settle_or (keep : List UInt8) (M : Int → Option (List UInt8)) : ∀ (ks : List Int) (c : Nat) (S : List (List UInt8)), (∀ k ∈ ks, 0 ≤ k ∧ (M k).isSome = true) → ∀ i : Nat, (settle keep M ks c S).getD i [] = S.getD i [] ∨ ∃ v, M (i : Int) = some v ∧ (settle keep M ks c S).getD i [] = v
  | [], _, S, _, i => .inl rfl
  | k :: r, c, S, hk, i => by
    rw [settle]
    have ih := settle_or keep M r (c + 1) (if keepBit keep c then S.set k.toNat ((M k).getD []) else S) (fun x hx => hk x (List.mem_cons_of_mem _ hx)) i
    obtain ⟨k0, ks⟩ := hk k (by simp)
    rcases ih with ih | ih
    · rw [ih]
      by_cases hb : keepBit keep c = true
      · rw [if_pos hb]
        rw [List.getD_eq_getElem?_getD, List.getD_eq_getElem?_getD]
        by_cases e : k.toNat = i
        · by_cases hi : i < S.length
          · right
            obtain ⟨v, hv⟩ := Option.isSome_iff_exists.1 ks
            refine ⟨v, by rw [← e, Int.toNat_of_nonneg k0]; exact hv, ?_⟩
            subst e
            rw [List.getElem?_set_self hi, hv]
            rfl
          · left
            rw [List.getElem?_eq_none (by rw [List.length_set]; omega), List.getElem?_eq_none (by omega)]
        · left
          rw [List.getElem?_set_ne e]
      · rw [if_neg hb]
        exact .inl rfl
    · exact .inr ih

/-- What is there behind a Commit that was lost, and whatever was lost with it. -/
theorem Inv.lost (I : Inv h a P S K) {l : List Int} {root : Int} {S1 S2 : List (List UInt8)} {M1 : Int → Option (List UInt8)} (hlen : 16 * P.length ≤ S.length) (h2 : 2 ≤ P.length) (hs : ∀ q, stOf P q ≤ 2) (ha : a ≤ 1) (hg : goodH h = true) (hg2 : goodH (nextH h root) = true) (hu : l.all (usedB P) = true)
    (hset : ∀ i : Nat, S2.getD i [] = S1.getD i [] ∨ ∃ v, M1 (i : Int) = some v ∧ S2.getD i [] = v)
    (ho : (S1 = S ∧ ∀ x : Nat, ¬ inNewI P l x → M1 (x : Int) = none) ∨
      ((∀ x, x < S.length → ¬ inNewI P l x → S1.getD x [] = S.getD x []) ∧ (∀ q : Nat, (q : Int) ∈ l → stOf P q = 1 → ∀ i, i < 16 → S1.getD (16 * q + i) [] = nth (txOf P q) i) ∧
        (∀ x : Nat, x ≠ 1 - a → M1 (x : Int) = none) ∧ (M1 ((1 - a : Nat) : Int) = none ∨ M1 ((1 - a : Nat) : Int) = some (bytesH (nextH h root))))) :
    (newH (S2.getD 0 []) (S2.getD 1 []) = (h, (a : Int), true) ∧ ∀ q, 1 ≤ q → q < P.length → stOf P q = 2 → pageB S2 q = bytesK (K q)) ∨
    (newH (S2.getD 0 []) (S2.getD 1 []) = (nextH h root, ((1 - a : Nat) : Int), true) ∧ ∀ q : Nat, (q : Int) ∈ l → pageB S2 q = bytesK (K q)) := by
  have hna : ∀ x, x < 16 → ¬ inNewI P l x := fun x hx => not_new hu x hx
  rcases ho with ⟨rfl, o1⟩ | ⟨o1, o2, o3, o4⟩
  · left
    have hsame : ∀ x, ¬ inNewI P l x → S2.getD x [] = S1.getD x [] := fun x hx => by
      rcases hset x with h | ⟨v, h, _⟩
      · exact h
      · rw [o1 x hx] at h; cases h
    refine ⟨HeadsAt.newest ⟨?_, ?_⟩ hg ha, fun q q1 q2 q3 => ?_⟩
    · rw [hsame a (hna a (by omega))]; exact I.heads.1
    · rw [hsame (1 - a) (hna _ (by omega))]; exact I.heads.2
    · rw [← I.kept q q1 q2 q3]
      exact pageB_congr q fun i hi => hsame _ (not_inNew (by omega) i hi)
  · have hsame : ∀ x, x ≠ 1 - a → S2.getD x [] = S1.getD x [] := fun x hx => by
      rcases hset x with h | ⟨v, h, _⟩
      · exact h
      · rw [o3 x hx] at h; cases h
    have hhead : S2.getD a [] = bytesH h := by rw [hsame a (by omega), o1 a (by omega) (hna a (by omega))]; exact I.heads.1
    have hor : S2.getD (1 - a) [] = S1.getD (1 - a) [] ∨ S2.getD (1 - a) [] = bytesH (nextH h root) := by
      rcases hset (1 - a) with h | ⟨v, h, hv⟩
      · exact .inl h
      · rcases o4 with o4 | o4
        · rw [o4] at h; cases h
        · rw [o4] at h
          cases h
          exact .inr hv
    rcases hor with hor | hor
    · left
      refine ⟨HeadsAt.newest ⟨hhead, ?_⟩ hg ha, fun q q1 q2 q3 => ?_⟩
      · rw [hor, o1 (1 - a) (by omega) (hna _ (by omega))]; exact I.heads.2
      · rw [← I.kept q q1 q2 q3]
        exact pageB_congr q fun i hi => by rw [hsame _ (by omega), o1 _ (by omega) (not_inNew (by omega) i hi)]
    · right
      refine ⟨HeadsAt.newest ⟨hor, .inr ⟨h, hg, Nat.lt_succ_self _, by rw [show 1 - (1 - a) = a by omega]; exact hhead⟩⟩ hg2 (by omega), fun q hq => ?_⟩
      obtain ⟨q1, q2, hne⟩ := used_st hu q hq
      have e : pageB S2 q = pageB S1 q := pageB_congr q fun i hi => hsame _ (by omega)
      rw [e]
      exact page_behind I hlen q q1 q2 (two_or hq hne (hs q)) (fun x hx h16 hn => o1 x hx hn) o2
end

/-! ### pairs lie in none of a store's blocks -/
theorem cellsG_mem (P : List Pag) (v : Value) (h : v ∈ cellsG P) : (∃ x, v = .int .i64 x) ∨ ∃ s, v = .string s := by
  induction P with
  | nil => cases h
  | cons g r ih =>
    rw [cellsG, List.mem_cons, List.mem_cons] at h
    rcases h with rfl | rfl | h
    · exact .inl ⟨_, rfl⟩
    · exact .inr ⟨_, rfl⟩
    · exact ih h

theorem ps_apart {A : Ad} {N : Nat} {p : Pw} {S : List (List UInt8)} {M : Int → Option (List UInt8)} {h : Hd} {a : Nat} {P : List Pag} {W : World} (k : Sv A N p S M h a P W) {c : Option Addr} {ps : Pairs} (hq : IsPs W c ps) (hp : 0 < ps.length) (b off : Nat) (e : c = some ⟨b, off, none⟩) : ¬ A.has b := by
  obtain ⟨b', off', e', hlt, hc⟩ := hq.cells hp
  rw [e] at e'
  simp only [Option.some.injEq, Addr.mk.injEq, and_true] at e'
  obtain ⟨rfl, rfl⟩ := e'
  obtain ⟨u0, u1⟩ := hc 0 hp
  rw [Nat.zero_mul, Nat.add_zero] at u0 u1
  rintro (rfl | rfl | rfl | rfl | rfl | rfl)
  · rw [cell_of_row _ _ _ _ _ _ k.isD.hd] at u0
    rcases off with _ | _ | _ | off <;> simp at u0
  · have hm : W.heap[A.m]? = _ := k.isP.1
    rw [cell_of_row _ _ _ _ _ _ hm] at u0
    rcases off with _ | _ | _ | _ | off <;> simp at u0
  · rw [cell_of_row _ _ _ _ _ _ k.isD.hs] at u0
    have hm := Array.mem_of_getElem? u0
    have hm2 : Value.int .u64 (keyAt ps 0) ∈ Lib.byteCells S.flatten := by simpa using hm
    rw [Lib.byteCells, List.mem_map] at hm2
    obtain ⟨x, _, hx⟩ := hm2
    simp at hx
  · cases hb : W.heap[A.b]? with
    | none => simp [World.cell?, hb] at u0
    | some o =>
      cases o with
      | cells cs t fr => exact k.isD.map.ne hb rfl
      | _ => simp [World.cell?, hb] at u0
  · rw [cell_of_row _ _ _ _ _ _ k.isS.hs] at u0 u1
    rcases off with _ | _ | _ | _ | _ | _ | _ | _ | off <;> simp at u0 u1
  · rw [cell_of_row _ _ _ _ _ _ k.isS.hp] at u0
    have hm := Array.mem_of_getElem? u0
    rcases cellsG_mem P _ (by simpa using hm) with ⟨x, hx⟩ | ⟨s, hs⟩
    · cases hx
    · cases hs

theorem ps_fr {A : Ad} {N : Nat} {p : Pw} {S : List (List UInt8)} {M : Int → Option (List UInt8)} {h : Hd} {a : Nat} {P : List Pag} {W W' : World} (k : Sv A N p S M h a P W) {c : Option Addr} {ps : Pairs} (hq : IsPs W c ps) (hf : Fr A W W') : IsPs W' c ps :=
  ⟨hq.len, hq.fits, fun hp => by
    obtain ⟨b, off, e, hlt, hc⟩ := hq.cells hp
    have hn := ps_apart k hq hp b off e
    exact ⟨b, off, e, Nat.lt_of_lt_of_le hlt hf.size, fun i hi => ⟨(World.cell?_of_block (a := ⟨b, off + i * 2, none⟩) (hf.block b ⟨hlt, hn⟩)).trans (hc i hi).1, (World.cell?_of_block (a := ⟨b, off + i * 2 + 1, none⟩) (hf.block b ⟨hlt, hn⟩)).trans (hc i hi).2⟩⟩⟩

end Go.Proofs.YtkgjmejgkffbdaaGreatDoor
