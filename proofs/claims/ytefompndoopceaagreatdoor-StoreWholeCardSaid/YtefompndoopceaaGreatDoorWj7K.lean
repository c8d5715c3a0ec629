import Derived.Test.YtefompndoopceaaGreatDoorWi7K
/- For StoreWhole: behind the loss: what is settled, and what is opened. -/
set_option linter.unusedVariables false
namespace Go.Proofs.YtefompndoopceaaGreatDoor
open Go.RowKit

section
variable {V1 W W' : World} {A : Ad} {sure ln : Nat} {vo : Value}
theorem places_in (n : Nat) (M : Int → Option (List UInt8)) : ∀ k ∈ places n M, 0 ≤ k ∧ (M k).isSome = true := fun k hk => by
  simp only [places, List.mem_map, List.mem_filter, List.mem_range, Int.ofNat_eq_natCast] at hk
  obtain ⟨j, ⟨_, h2⟩, rfl⟩ := hk
  exact ⟨by omega, h2⟩

theorem whI_kept {i : Nat} (k : WhI V1 A i vo W) : KeptIn (· < V1.heap.size) V1 W := by
  obtain ⟨p, S, h, a, P, K, L, vs, k1, k2, k3, k4, k5, k6, k7, k8, k9, ks, kf, kc, k10, k11, k12, k14⟩ := k
  exact k14

theorem whT_shape (k : WhT V1 A sure ln vo W) (hl : 0 < ln) : ∃ g cap, vo = .slice (some ⟨g, 0, none⟩) ln cap := by
  obtain ⟨N, p, S, M, h, a, P, vs, k1, k2, k3, k4, _⟩ := k
  obtain ⟨g, cap, e, _⟩ := rowT_at (d := .slice none 0 0) k4 hl
  exact ⟨g, cap, e⟩

/-- Behind the loss of power. -/
def WhU (V1 : World) (A : Ad) (sure ln : Nat) (vo : Value) (W : World) : Prop :=
  ∃ (N : Nat) (p : Pw) (S : List (List UInt8)) (M : Int → Option (List UInt8)) (h : Hd) (a : Nat) (P : List Pag) (vs : List Value), p.on = false ∧ Sv A N p S M h a P W ∧ S.length = 480 ∧ vs.length = ln ∧ W.ownsRow V1.heap.size 40 1 vo ln vs ∧ KeptIn (· < V1.heap.size) V1 W ∧
    ∀ S2, (∀ i : Nat, S2.getD i [] = S.getD i [] ∨ ∃ v, M (i : Int) = some v ∧ S2.getD i [] = v) → ∃ t, (t = sure ∨ t = sure + 1) ∧ t < ln ∧ ∃ (h0 : Hd) (a0 : Nat), newH (S2.getD 0 []) (S2.getD 1 []) = (h0, (a0 : Int), true) ∧ h0.gen = t + 1 ∧
      ((t = 0 ∧ h0.root = 0) ∨ ∃ L : List Int, 0 < t ∧ 0 < L.length ∧ L.length ≤ 5 ∧ h0.root = L.getD 0 0 ∧ SlAt V1 (vs.getD t (.slice none 0 0)) L W ∧ (∀ x ∈ L, ∃ q : Nat, x = (q : Int) ∧ 1 ≤ q ∧ q < 30) ∧ ∀ j, j < L.length → pageB S2 (L.getD j 0).toNat = bytesK (100 * (t - 1) + j))

theorem slAt_frN {N : Nat} {p : Pw} {S : List (List UInt8)} {M : Int → Option (List UInt8)} {h : Hd} {a : Nat} {P : List Pag} {v : Value} {L : List Int} (hv : Sv A N p S M h a P W) (hs : SlAt V1 v L W) (hf : Fr A W W') : SlAt V1 v L W' := by
  obtain ⟨g, cap, e, hr⟩ := hs
  exact ⟨g, cap, e, rowT_fr hv hr hf (by decide) (by decide) (by decide) (by decide) (by decide)⟩

theorem whT_cut (k : WhT V1 A sure ln vo W) (hlo : Lo V1 A) : Calls Tryz.prog 38 #[.pointer (some ⟨A.m, 0, none⟩)] W fun e w' => e = .returned (.tuple #[]) ∧ WhU V1 A sure ln vo w' := by
  obtain ⟨N, p, S, M, h, a, P, vs, k1, k2, k3, k4, k5, k6⟩ := k
  refine (svCut k1).mono ?_
  rintro e w' ⟨rfl, h1, f⟩
  refine ⟨rfl, N, p.cut, S, M, h, a, P, vs, rfl, h1, k2, k3, rowT_fr k1 k4 f (by decide) (by decide) (by decide) (by decide) (by decide), hlo.fr k5 f, fun S2 hS2 => ?_⟩
  obtain ⟨t, t1, t2, h0, a0, q1, q2, q3⟩ := k6 S2 hS2
  refine ⟨t, t1, t2, h0, a0, q1, q2, q3.imp id ?_⟩
  rintro ⟨L, r1, r2, r3, r4, r5, r6, r7⟩
  exact ⟨L, r1, r2, r3, r4, slAt_frN k1 r5 f, r6, r7⟩

/-- What is there. -/
def WhV (V1 : World) (A : Ad) (b : Bool) (ln : Nat) (vo : Value) (t : Nat) (h0 : Hd) (L : List Int) (W : World) : Prop :=
  ∃ (p : Pw) (S : List (List UInt8)) (h : Hd) (a : Nat) (P : List Pag) (vs : List Value) (a0 : Nat), p.on = b ∧ Sv A 0 p S (fun _ => none) h a P W ∧ S.length = 480 ∧ vs.length = ln ∧ W.ownsRow V1.heap.size 40 1 vo ln vs ∧ KeptIn (· < V1.heap.size) V1 W ∧ newH (S.getD 0 []) (S.getD 1 []) = (h0, (a0 : Int), true) ∧
      ((t = 0 ∧ h0.root = 0) ∨ (0 < t ∧ 0 < L.length ∧ L.length ≤ 5 ∧ h0.root = L.getD 0 0 ∧ SlAt V1 (vs.getD t (.slice none 0 0)) L W ∧ (∀ x ∈ L, ∃ q : Nat, x = (q : Int) ∧ 1 ≤ q ∧ q < 30) ∧ ∀ j, j < L.length → pageB S (L.getD j 0).toNat = bytesK (100 * (t - 1) + j)))

/-- What Settle hands back to the law. -/
def WhS (V1 : World) (A : Ad) (sure ln : Nat) (vo : Value) (e : Ending) (w' : World) : Prop :=
  e = .returned (.int .i64 0) ∧ ∃ (t : Nat) (h0 : Hd) (L : List Int), (t = sure ∨ t = sure + 1) ∧ t < ln ∧ h0.gen = t + 1 ∧ WhV V1 A false ln vo t h0 L w'
theorem whU_settle (k : WhU V1 A sure ln vo W) (hlo : Lo V1 A) (l : List UInt8) (hl : l.length ≤ maxLen) : Calls Tryz.prog 39 #[.pointer (some ⟨A.d, 0, none⟩), .string ⟨l.toArray⟩] W (WhS V1 A sure ln vo) := by
  obtain ⟨N, p, S, M, h, a, P, vs, hp, k1, k2, k3, k4, k5, k6⟩ := k
  refine (svSettle k1 hp l hl).mono ?_
  rintro e w' ⟨rfl, h1, f⟩
  obtain ⟨t, t1, t2, h0, a0, q1, q2, q3⟩ := k6 _ (settle_or l M (places S.length M) 0 S (places_in S.length M))
  rcases q3 with ⟨r1, r2⟩ | ⟨L, r1, r2, r3, r4, r5, r6, r7⟩
  · exact ⟨rfl, t, h0, [], t1, t2, q2, p, _, h, a, P, vs, a0, hp, h1, by rw [settle_length]; exact k2, k3, rowT_fr k1 k4 f (by decide) (by decide) (by decide) (by decide) (by decide), hlo.fr k5 f, q1, .inl ⟨r1, r2⟩⟩
  · exact ⟨rfl, t, h0, L, t1, t2, q2, p, _, h, a, P, vs, a0, hp, h1, by rw [settle_length]; exact k2, k3, rowT_fr k1 k4 f (by decide) (by decide) (by decide) (by decide) (by decide), hlo.fr k5 f, q1, .inr ⟨r1, r2, r3, r4, slAt_frN k1 r5 f, r6, r7⟩⟩

theorem whV_come {t : Nat} {h0 : Hd} {L : List Int} (k : WhV V1 A false ln vo t h0 L W) (hlo : Lo V1 A) : Calls Tryz.prog 40 #[.pointer (some ⟨A.m, 0, none⟩)] W fun e w' => e = .returned (.tuple #[]) ∧ WhV V1 A true ln vo t h0 L w' := by
  obtain ⟨p, S, h, a, P, vs, a0, hp, k1, k2, k3, k4, k5, k6, k7⟩ := k
  refine (svCome k1 hp).mono ?_
  rintro e w' ⟨rfl, ⟨p', hp', h1⟩, f⟩
  refine ⟨rfl, p', S, h, a, P, vs, a0, hp', h1, k2, k3, rowT_fr k1 k4 f (by decide) (by decide) (by decide) (by decide) (by decide), hlo.fr k5 f, k6, k7.imp id ?_⟩
  rintro ⟨r1, r2, r3, r4, r5, r6, r7⟩
  exact ⟨r1, r2, r3, r4, slAt_frN k1 r5 f, r6, r7⟩

/-- What is opened. -/
def WhO (V1 : World) (A : Ad) (ln : Nat) (vo : Value) (t : Nat) (h0 : Hd) (L : List Int) (W : World) : Prop :=
  ∃ (p : Pw) (S : List (List UInt8)) (vs : List Value) (a0 : Nat), p.on = true ∧ Sv A 0 p S (fun _ => none) h0 a0 (noP 30) W ∧ S.length = 480 ∧ vs.length = ln ∧ W.ownsRow V1.heap.size 40 1 vo ln vs ∧ KeptIn (· < V1.heap.size) V1 W ∧
      ((t = 0 ∧ h0.root = 0) ∨ (0 < t ∧ 0 < L.length ∧ L.length ≤ 5 ∧ h0.root = L.getD 0 0 ∧ SlAt V1 (vs.getD t (.slice none 0 0)) L W ∧ (∀ x ∈ L, ∃ q : Nat, x = (q : Int) ∧ 1 ≤ q ∧ q < 30) ∧ ∀ j, j < L.length → pageB S (L.getD j 0).toNat = bytesK (100 * (t - 1) + j)))

/-- What Open hands back to the law. -/
def WhOS (V1 : World) (ln : Nat) (vo : Value) (t : Nat) (h0 : Hd) (L : List Int) (e : Ending) (w' : World) : Prop :=
  ∃ B : Ad, e = .returned (.tuple #[.pointer (some ⟨B.st, 0, none⟩), .int .i64 0]) ∧ WhO V1 B ln vo t h0 L w'
theorem whV_open {t : Nat} {h0 : Hd} {L : List Int} (k : WhV V1 A true ln vo t h0 L W) (hT : Tab V1) : Calls Tryz.prog 31 #[.pointer (some ⟨A.d, 0, none⟩)] W (WhOS V1 ln vo t h0 L) := by
  obtain ⟨p, S, h, a, P, vs, a0, hp, k1, k2, k3, k4, k5, k6, k7⟩ := k
  refine (stOpenSome A.d A.m A.s A.b 0 p S (fun _ => none) W k1.isD k1.isP hp (hT.kept k5 hT.lt) 30 (by rw [k2]; decide) (by decide) h0 a0 k6).mono ?_
  rintro e w' ⟨st, pg, rfl, h1, f, _, _⟩
  refine ⟨⟨A.d, A.m, A.s, A.b, st, pg⟩, rfl, p, S, vs, a0, hp, h1, k2, k3, rowT_old k4 f, k5.step f, k7.imp id ?_⟩
  rintro ⟨r1, r2, r3, r4, r5, r6, r7⟩
  exact ⟨r1, r2, r3, r4, slAt_old r5 f, r6, r7⟩

variable {t : Nat} {h0 : Hd} {L : List Int}
theorem whO_old (k : WhO V1 A ln vo t h0 L W) (f : KeptIn (· < W.heap.size) W W') : WhO V1 A ln vo t h0 L W' := by
  obtain ⟨p, S, vs, a0, hp, k1, k2, k3, k4, k5, k7⟩ := k
  refine ⟨p, S, vs, a0, hp, k1.old f, k2, k3, rowT_old k4 f, k5.step f, k7.imp id ?_⟩
  rintro ⟨r1, r2, r3, r4, r5, r6, r7⟩
  exact ⟨r1, r2, r3, r4, slAt_old r5 f, r6, r7⟩
theorem whO_kept (k : WhO V1 A ln vo t h0 L W) : KeptIn (· < V1.heap.size) V1 W := by
  obtain ⟨p, S, vs, a0, hp, k1, k2, k3, k4, k5, k7⟩ := k
  exact k5
theorem whO_head (k : WhO V1 A ln vo t h0 L W) (U : World) (hk : KeptIn (· < U.heap.size) U W) : Calls Tryz.prog 26 #[.pointer (some ⟨A.st, 0, none⟩)] W fun e w' => e = .returned (headV h0) ∧ KeptIn (· < U.heap.size) U w' := by
  obtain ⟨p, S, vs, a0, hp, k1, k2, k3, k4, k5, k7⟩ := k
  exact headQ A h0 a0 _ U W hk k1.isS
theorem whO_root (k : WhO V1 A ln vo t h0 L W) (ht : t = 0) : h0.root = 0 := by
  obtain ⟨p, S, vs, a0, hp, k1, k2, k3, k4, k5, k7⟩ := k
  rcases k7 with ⟨_, h⟩ | ⟨h, _⟩
  · exact h
  · omega
theorem whO_cells (k : WhO V1 A ln vo t h0 L W) (ht : 0 < t) (hln : t < ln) : 0 < L.length ∧ L.length ≤ 5 ∧ h0.root = L.getD 0 0 ∧ ∃ g cap g2 cap2, vo = .slice (some ⟨g, 0, none⟩) ln cap ∧
    ∀ V, KeptIn (· < W.heap.size) W V → V.cell? ⟨g, t, none⟩ = some (.slice (some ⟨g2, 0, none⟩) L.length cap2) ∧ ∀ j, j < L.length → V.cell? ⟨g2, j, none⟩ = some (.int .i64 (L.getD j 0)) := by
  obtain ⟨p, S, vs, a0, hp, k1, k2, k3, k4, k5, k7⟩ := k
  rcases k7 with ⟨h, _⟩ | ⟨_, r2, r3, r4, ⟨g2, cap2, e2, r5⟩, r6, r7⟩
  · omega
  obtain ⟨g, cap, rfl, _, hg, hc⟩ := rowT_at (d := .slice none 0 0) k4 (by omega : 0 < ln)
  obtain ⟨g3, cap3, e3, _, hg3, hc3⟩ := rowT_at (d := .int .i64 0) r5 r2
  rw [e2] at e3
  simp only [Value.slice.injEq, Option.some.injEq, Addr.mk.injEq, and_true, true_and] at e3
  obtain ⟨rfl, rfl⟩ := e3
  refine ⟨r2, r3, r4, g, cap, g2, cap2, rfl, fun V hV => ⟨?_, fun j hj => ?_⟩⟩
  · rw [World.cell?_of_block (a := ⟨g, t, none⟩) (hV.block g hg), hc t hln, e2]
  · rw [World.cell?_of_block (a := ⟨g2, j, none⟩) (hV.block g2 hg3), hc3 j hj, List.getD_eq_getElem?_getD, List.getElem?_map, List.getD_eq_getElem?_getD, List.getElem?_eq_getElem hj]
    rfl
theorem whO_read (k : WhO V1 A ln vo t h0 L W) (hT : Tab V1) (ht : 0 < t) (j : Nat) (hj : j < L.length) (hb : 100 * (t - 1) + j < 18446744073709551616) :
    Calls Tryz.prog 21 #[.pointer (some ⟨A.st, 0, none⟩), .int .i64 (L.getD j 0)] W (ReadL W.heap.size W (bytesK (100 * (t - 1) + j)) 0) := by
  obtain ⟨p, S, vs, a0, hp, k1, k2, k3, k4, k5, k7⟩ := k
  rcases k7 with ⟨h, _⟩ | ⟨_, r2, r3, r4, _, r6, r7⟩
  · omega
  obtain ⟨q, hq, q1, q2⟩ := r6 _ (getD_mem L j hj)
  have hpg := r7 j hj
  rw [hq, show ((q : Int)).toNat = q by omega] at hpg
  have CR := stReadDev q (bytesK (100 * (t - 1) + j)) W k1 (hT.kept k5 hT.lt) hp q1 (by rw [noP_length]; exact q2) (by rw [noP_st]; decide) hpg
  obtain ⟨b1, b2, b3⟩ := bytesK_read (100 * (t - 1) + j) hb
  rw [b1, if_pos rfl] at CR
  rw [hq]
  exact CR
end
end Go.Proofs.YtefompndoopceaaGreatDoor
