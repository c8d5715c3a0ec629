import Derived.Test.YtefompndoopceaaGreatDoorWh7K
/- For StoreWhole: from one commit to the next, and what a loss leaves. -/
set_option linter.unusedVariables false
namespace Go.Proofs.YtefompndoopceaaGreatDoor
open Go.RowKit

section
variable {V1 Wi W W' : World} {A : Ad} {p : Pw} {S : List (List UInt8)} {h : Hd} {a : Nat} {P : List Pag} {K : Nat → Nat} {L Q : List Int} {i k : Nat} {vo vq v : Value} {vs : List Value}
theorem slAt_fr (hv : Sv A 0 p S (fun _ => none) h a P W) (hs : SlAt V1 v L W) (hf : Fr A W W') : SlAt V1 v L W' := by
  obtain ⟨g, cap, e, hr⟩ := hs
  exact ⟨g, cap, e, rowT_fr hv hr hf (by decide) (by decide) (by decide) (by decide) (by decide)⟩
theorem slAt_old (hs : SlAt V1 v L W) (hk : KeptIn (· < W.heap.size) W W') : SlAt V1 v L W' := by
  obtain ⟨g, cap, e, hr⟩ := hs
  exact ⟨g, cap, e, rowT_old hr hk⟩
theorem rowT_grown {B n s : Nat} {T : TypeId} {v v2 : Value} {xs : List Value} (hr : W.ownsRow B T s v n xs) (o : Obj) (hg : (W.alloc o).grownBy W' v2.ownBlock) (hne : ∀ g, v.ownBlock = some g → some g ≠ v2.ownBlock) : W'.ownsRow B T s v n xs :=
  rowT_block hr fun g e => by
    obtain ⟨cur, hc, _⟩ := rowT_cells hr g e
    have hlt := (Array.getElem?_eq_some_iff.1 hc).1
    exact (hg.block g (by simp; omega) (hne g e)).trans (Lib.alloc_old _ _ _ hlt)
theorem row_types {B n s B2 n2 s2 : Nat} {T T2 : TypeId} {v v2 : Value} {xs xs2 : List Value} (hr : W.ownsRow B T s v n xs) (hr2 : W.ownsRow B2 T2 s2 v2 n2 xs2) (hT : T ≠ T2) : ∀ g, v.ownBlock = some g → some g ≠ v2.ownBlock := fun g e e2 => by
  obtain ⟨c1, h1, _⟩ := rowT_cells hr g e
  obtain ⟨c2, h2, _⟩ := rowT_cells hr2 g e2.symm
  rw [h1] at h2
  simp only [Option.some.injEq, Obj.cells.injEq] at h2
  exact hT h2.2.1

theorem next_good (hg : h.gen ≤ 100) (h1 : h.slow = 9) (h2 : h.fast = 3) (h3 : h.chunk = 1) (q : Nat) (hq : q < 30) : goodH (nextH h (q : Int)) = true := by
  unfold goodH nextH Hd.can
  rw [h1, h2, h3]
  simp
  omega

theorem rowT_mono {B B2 n s : Nat} {T : TypeId} {v : Value} {xs : List Value} (hr : W.ownsRow B T s v n xs) (hB : B2 ≤ B) : W.ownsRow B2 T s v n xs := by
  refine ⟨hr.1, ?_⟩
  rcases hr.2 with h1 | ⟨g, cap, cur, rfl, hg, r⟩
  · exact .inl h1
  · exact .inr ⟨g, cap, cur, rfl, Nat.le_trans hB hg, r⟩
theorem rowT_at {B n : Nat} {T : TypeId} {v d : Value} {xs : List Value} (hr : W.ownsRow B T 1 v n xs) (hn : 0 < n) : ∃ g cap, v = .slice (some ⟨g, 0, none⟩) n cap ∧ B ≤ g ∧ g < W.heap.size ∧ ∀ j, j < n → W.cell? ⟨g, j, none⟩ = some (xs.getD j d) := by
  rcases hr.2 with ⟨_, h0⟩ | ⟨g, cap, cur, rfl, hB, hg, hc, hm, hs, ht⟩
  · omega
  · refine ⟨g, cap, rfl, hB, (Array.getElem?_eq_some_iff.1 hg).1, fun j hj => ?_⟩
    rw [cell_of_row _ _ _ _ _ _ hg]
    have hl : j < cur.size := by rw [hs]; omega
    rw [← ht, List.getD_eq_getElem?_getD, List.getElem?_take_of_lt (by omega), Array.getElem?_toList, Array.getElem?_eq_getElem hl]
    rfl

/-- What stands at the begin of round i. -/
structure WhF (h : Hd) (L : List Int) (i : Nat) (vs : List Value) : Prop where
  len : L.length ≤ 5
  gen : h.gen = i + 1
  r0 : i = 0 → h.root = 0
  r1 : 0 < i → 0 < L.length ∧ h.root = L.getD 0 0
  s : h.slow = 9
  f : h.fast = 3
  c : h.chunk = 1
  vs : vs.length = i + 1

/-- Between two additions of a round. -/
def WhM (V1 Wi : World) (A : Ad) (p : Pw) (S : List (List UInt8)) (h : Hd) (a : Nat) (L : List Int) (vs : List Value) (vo : Value) (i k : Nat) (v : Value) (W : World) : Prop :=
  ∃ (P : List Pag) (K : Nat → Nat) (Q : List Int), Q.length = k ∧ Sv A 0 p S (fun _ => none) h a P W ∧ WhP L Q P ∧ Inv h a P S K ∧ KOk K L (100 * (i - 1)) ∧ KOk K Q (100 * i) ∧ W.ownsRow Wi.heap.size 3 1 v k (Q.map encZ) ∧
    W.ownsRow V1.heap.size 40 1 vo (i + 1) vs ∧ (∃ g cap, g < Wi.heap.size ∧ vs.getD i (.slice none 0 0) = .slice (some ⟨g, 0, none⟩) L.length cap ∧ W.ownsRow V1.heap.size 3 1 (vs.getD i (.slice none 0 0)) L.length (L.map encZ)) ∧ KeptIn (· < V1.heap.size) V1 W ∧ V1.heap.size ≤ Wi.heap.size ∧ Wi.heap.size ≤ W.heap.size

/-- Between an addition and what it is appended to. -/
def WhH (V1 Wi : World) (A : Ad) (p : Pw) (S : List (List UInt8)) (h : Hd) (a : Nat) (L : List Int) (vs : List Value) (vo : Value) (i k : Nat) (v : Value) (Q : List Int) (q : Nat) (W : World) : Prop :=
  ∃ (P : List Pag) (K : Nat → Nat), Sv A 0 p S (fun _ => none) h a P W ∧ WhP L (Q ++ [(q : Int)]) P ∧ Inv h a P S K ∧ KOk K L (100 * (i - 1)) ∧ KOk K (Q ++ [(q : Int)]) (100 * i) ∧ W.ownsRow Wi.heap.size 3 1 v k (Q.map encZ) ∧
    W.ownsRow V1.heap.size 40 1 vo (i + 1) vs ∧ (∃ g cap, g < Wi.heap.size ∧ vs.getD i (.slice none 0 0) = .slice (some ⟨g, 0, none⟩) L.length cap ∧ W.ownsRow V1.heap.size 3 1 (vs.getD i (.slice none 0 0)) L.length (L.map encZ)) ∧ KeptIn (· < V1.heap.size) V1 W ∧ V1.heap.size ≤ Wi.heap.size ∧ Wi.heap.size ≤ W.heap.size

theorem whI_start (k' : WhI V1 A i vo W) (hW : W.alloc (.cells #[] 3) = W') : ∃ (p : Pw) (S : List (List UInt8)) (h : Hd) (a : Nat) (L : List Int) (vs : List Value), S.length = 480 ∧ WhF h L i vs ∧ WhM V1 W A p S h a L vs vo i 0 (.slice (some ⟨W.heap.size, 0, none⟩) 0 0) W' := by
  obtain ⟨p, S, h, a, P, K, L, vs, k1, k2, k3, k4, k5, k6, k7, k8, k9, ks, kf, kc, k10, k11, ⟨g, cap, k12, k13⟩, k14⟩ := k'
  have kk : KeptIn (· < W.heap.size) W W' := by rw [← hW]; exact (KeptIn.refl _ W).alloc (fun _ h => h) _
  have hg : W'.heap[W.heap.size]? = some (.cells #[] 3 (0, 0)) := by rw [← hW]; exact heap_alloc_new W _
  have hlt : g < W.heap.size := by
    obtain ⟨cur, hc, _⟩ := rowT_cells k13 g (by rw [k12]; rfl)
    exact (Array.getElem?_eq_some_iff.1 hc).1
  exact ⟨p, S, h, a, L, vs, k2, ⟨k4, k7, k8, k9, ks, kf, kc, k10⟩, P, K, [], rfl, k1.old kk, k3, k5, k6, (fun t ht => absurd ht (by simp)),
    ⟨rfl, .inr ⟨W.heap.size, 0, #[], rfl, Nat.le_refl _, hg, Nat.le_refl _, Nat.zero_le _, rfl, rfl⟩⟩, rowT_old k11 kk, ⟨g, cap, hlt, k12, rowT_old k13 kk⟩, k14.step kk, k14.size, kk.size⟩

/-- What a round's addition asks and leaves. -/
theorem whM_add (k' : WhM V1 Wi A p S h a L vs vo i k v W) (hT : Tab V1) (hlo : Lo V1 A) (hL : L.length ≤ 5) (hk : k ≤ 4) (W6 : World) (h6 : KeptIn (· < W.heap.size) W W6) (g : Nat) (hps : IsPs W6 (some ⟨g, 0, none⟩) (psK (100 * i + k))) :
    ∃ (Q : List Int) (q : Nat), 1 ≤ q ∧ q < 30 ∧ Q.length = k ∧ Calls Tryz.prog 13 #[.pointer (some ⟨A.st, 0, none⟩), .agg #[.int .i64 0, .slice (some ⟨g, 0, none⟩) 1 1]] W6 fun e W7 => e = .returned (.tuple #[.int .i64 q, .int .i64 0]) ∧ WhH V1 Wi A p S h a L vs vo i k v Q q W7 := by
  obtain ⟨P, K, Q, kq, k1, k2, k3, k4, k5, k6, k7, ⟨gl, cap, k8, k9, k10⟩, k11, k12, k13⟩ := k'
  obtain ⟨q, hq⟩ := k2.free hL (by omega)
  obtain ⟨q1, q2, q3, q4⟩ := k2.fresh hq
  have k1' := k1.old h6
  have k11' := k11.step h6
  refine ⟨Q, q, q1, q2, kq, (stAddOk k1' (hT.kept k11' hT.lt) 0 (some ⟨g, 0, none⟩) 1 (psK (100 * i + k)) hps (psK_good _) q hq).mono ?_⟩
  rintro e W7 ⟨rfl, hv7, f7⟩
  refine ⟨rfl, P.set q (1, bytesK (100 * i + k)), fun r => if r = q then 100 * i + k else K r, hv7, k2.add hq _, k3.add q _ (by rw [k2.len]; exact q2) (freeP_some hq).2.2, k4.keep (Q := []) k2.rgL q3, k5.add k2.rg q4 (by omega), ?_, ?_, ⟨gl, cap, k8, k9, ?_⟩, hlo.fr k11' f7, k12, Nat.le_trans k13 (Nat.le_trans h6.size f7.size)⟩
  · exact rowT_fr k1' (rowT_old k6 h6) f7 (by decide) (by decide) (by decide) (by decide) (by decide)
  · exact rowT_fr k1' (rowT_old k7 h6) f7 (by decide) (by decide) (by decide) (by decide) (by decide)
  · exact rowT_fr k1' (rowT_old k10 h6) f7 (by decide) (by decide) (by decide) (by decide) (by decide)

theorem whH_size {q : Nat} (k' : WhH V1 Wi A p S h a L vs vo i k v Q q W) : Wi.heap.size ≤ W.heap.size := by
  obtain ⟨P, K, k1, k2, k3, k4, k5, k6, k7, ⟨gl, cap, k8, k9, k10⟩, k11, k12, k13⟩ := k'
  exact k13
theorem whM_kept (k' : WhM V1 Wi A p S h a L vs vo i k v W) : KeptIn (· < V1.heap.size) V1 W := by
  obtain ⟨P, K, Q, kq, k1, k2, k3, k4, k5, k6, k7, _, k11, _⟩ := k'
  exact k11

theorem whH_app {q : Nat} {v' : Value} {W8 : World} (k' : WhH V1 Wi A p S h a L vs vo i k v Q q W) (hQ : Q.length = k) (o : Obj) (hg : (W.alloc o).grownBy W8 v.ownBlock) (hown : W8.ownsRow Wi.heap.size 3 1 v' (k + 1) (Q.map encZ ++ [.int .i64 (q : Int)])) :
    WhM V1 Wi A p S h a L vs vo i (k + 1) v' W8 := by
  obtain ⟨P, K, k1, k2, k3, k4, k5, k6, k7, ⟨gl, cap, k8, k9, k10⟩, k11, k12, k13⟩ := k'
  have hr := rowT_mono k6 k12
  refine ⟨P, K, Q ++ [(q : Int)], by rw [List.length_append, hQ]; rfl, sv_grown k1 k6 o hg (by decide) (by decide) (by decide) (by decide) (by decide), k2, k3, k4, k5, ?_, rowT_grown k7 o hg (row_types k7 k6 (by decide)), ⟨gl, cap, k8, k9, rowT_grown k10 o hg fun g e e2 => ?_⟩, kept_grown (B := 0) hr k11 o hg, k12, Nat.le_trans k13 (Nat.le_trans (by rw [World.size_alloc]; exact Nat.le_succ _) hg.size)⟩
  · rw [List.map_append]
    exact hown
  · obtain ⟨c2, h2, hB⟩ := rowT_cells k6 g e2.symm
    rw [k9] at e
    simp only [Value.ownBlock, Option.some.injEq] at e
    omega

theorem whM_shape (k' : WhM V1 Wi A p S h a L vs vo i k v W) (hk : 0 < k) : ∃ g cap, v = .slice (some ⟨g, 0, none⟩) k cap := by
  obtain ⟨P, K, Q, kq, k1, k2, k3, k4, k5, k6, _⟩ := k'
  obtain ⟨g, cap, e, _⟩ := rowT_at (d := .int .i64 0) k6 hk
  exact ⟨g, cap, e⟩

/-- Ahead of a round's commit. -/
def WhC (V1 : World) (A : Ad) (p : Pw) (S : List (List UInt8)) (h : Hd) (a : Nat) (L : List Int) (vs : List Value) (vo : Value) (i n : Nat) (v : Value) (W : World) : Prop :=
  ∃ (P : List Pag) (K : Nat → Nat) (Q : List Int), Q.length = n ∧ Sv A 0 p S (fun _ => none) h a P W ∧ WhP L Q P ∧ Inv h a P S K ∧ KOk K L (100 * (i - 1)) ∧ KOk K Q (100 * i) ∧ W.ownsRow V1.heap.size 40 1 vo (i + 2) (vs ++ [v]) ∧ SlAt V1 v Q W ∧ SlAt V1 (vs.getD i (.slice none 0 0)) L W ∧ KeptIn (· < V1.heap.size) V1 W

theorem whM_list {vo' : Value} {W8 : World} (k' : WhM V1 Wi A p S h a L vs vo i k v W) (hk : 0 < k) (o : Obj) (hg : (W.alloc o).grownBy W8 vo.ownBlock) (hown : W8.ownsRow V1.heap.size 40 1 vo' (i + 2) (vs ++ [v])) : WhC V1 A p S h a L vs vo' i k v W8 := by
  obtain ⟨P, K, Q, kq, k1, k2, k3, k4, k5, k6, k7, ⟨gl, cap, k8, k9, k10⟩, k11, k12, k13⟩ := k'
  have hr := rowT_mono k6 k12
  obtain ⟨g, c, hv, _⟩ := rowT_at (d := .int .i64 0) k6 hk
  refine ⟨P, K, Q, kq, sv_grown k1 k7 o hg (by decide) (by decide) (by decide) (by decide) (by decide), k2, k3, k4, k5, hown, ⟨g, c, by rw [hv, kq], ?_⟩, ⟨gl, cap, k9, rowT_grown k10 o hg (row_types k10 k7 (by decide))⟩, kept_grown (B := 0) k7 k11 o hg⟩
  rw [kq]
  exact rowT_grown hr o hg (row_types hr k7 (by decide))

theorem whC_lost (k' : WhC V1 A p S h a L vs vo i k v W) (hS : S.length = 480) (hF : WhF h L i vs) (hlo : Lo V1 A) (hk : 0 < k) (hk5 : k ≤ 5) (hi : i ≤ 8) {P : List Pag} {K : Nat → Nat} {Q : List Int} (kq : Q.length = k) (k1 : Sv A 0 p S (fun _ => none) h a P W) (k2 : WhP L Q P) (k3 : Inv h a P S K) (k4 : KOk K L (100 * (i - 1))) (k5 : KOk K Q (100 * i)) (k6 : W.ownsRow V1.heap.size 40 1 vo (i + 2) (vs ++ [v])) (k7 : SlAt V1 v Q W) (k8 : SlAt V1 (vs.getD i (.slice none 0 0)) L W) (k9 : KeptIn (· < V1.heap.size) V1 W)
    (hg2 : goodH (nextH h (Q.getD 0 0)) = true) (hc : CommS A W p S h a P (Q.getD 0 0) Q (.returned (.int .i64 4)) W') : WhT V1 A i (i + 2) vo W' := by
  obtain ⟨e', N', p', S', M', h', a', P', he, hv', hf, _, hl, ho, _⟩ := hc
  obtain rfl : e' = 4 := by simpa using he.symm
  have ho' := ho.resolve_left (fun x => by cases x.1)
  refine ⟨N', p', S', M', h', a', P', vs ++ [v], hv', by rw [hl]; exact hS, by rw [List.length_append, hF.vs]; rfl, rowT_fr k1 k6 hf (by decide) (by decide) (by decide) (by decide) (by decide), hlo.fr k9 hf, fun S2 hS2 => ?_⟩
  rcases k3.lost (root := Q.getD 0 0) (by rw [k2.len, hS]; decide) (by rw [k2.len]; decide) k1.sts k1.ha k1.good hg2 k2.used hS2 (ho'.imp (fun x => x.2) (fun x => x.2)) with ⟨q1, q2⟩ | ⟨q1, q2⟩
  · refine ⟨i, .inl rfl, by omega, h, a, q1, hF.gen, ?_⟩
    by_cases hi0 : i = 0
    · exact .inl ⟨hi0, hF.r0 hi0⟩
    · obtain ⟨r1, r2⟩ := hF.r1 (by omega)
      have e : (vs ++ [v]).getD i (.slice none 0 0) = vs.getD i (.slice none 0 0) := by rw [List.getD_eq_getElem?_getD, List.getD_eq_getElem?_getD, List.getElem?_append_left (by rw [hF.vs]; omega)]
      refine .inr ⟨L, by omega, r1, hF.len, r2, by rw [e]; exact slAt_fr k1 k8 hf, k2.rgL, rows_pages k4 k2.rgL fun q hq => ?_⟩
      obtain ⟨q', hq', s1, s2⟩ := k2.rgL _ hq
      obtain rfl : q = q' := by omega
      exact q2 q s1 (by rw [k2.len]; exact s2) (by rw [k2.st q s1 s2, if_pos hq])
  · refine ⟨i + 1, .inr rfl, by omega, _, _, q1, ?_, .inr ⟨Q, by omega, by omega, by omega, rfl, ?_, k2.rg, ?_⟩⟩
    · show h.gen + 1 = i + 1 + 1
      rw [hF.gen]
    · have e : (vs ++ [v]).getD (i + 1) (.slice none 0 0) = v := by
        rw [List.getD_eq_getElem?_getD, List.getElem?_append_right (by rw [hF.vs]; omega), hF.vs, Nat.sub_self]
        rfl
      rw [e]
      exact slAt_fr k1 k7 hf
    · rw [Nat.add_sub_cancel]
      exact rows_pages k5 k2.rg q2

theorem whC_done (hS : S.length = 480) (hF : WhF h L i vs) (hlo : Lo V1 A) (hk : 0 < k) (hk5 : k ≤ 5) {P : List Pag} {K : Nat → Nat} {Q : List Int} (kq : Q.length = k) (k1 : Sv A 0 p S (fun _ => none) h a P W) (k2 : WhP L Q P) (k3 : Inv h a P S K) (k5 : KOk K Q (100 * i)) (k6 : W.ownsRow V1.heap.size 40 1 vo (i + 2) (vs ++ [v])) (k7 : SlAt V1 v Q W) (k9 : KeptIn (· < V1.heap.size) V1 W)
    (hg2 : goodH (nextH h (Q.getD 0 0)) = true) (hc : CommS A W p S h a P (Q.getD 0 0) Q (.returned (.int .i64 0)) W') : WhI V1 A (i + 1) vo W' := by
  obtain ⟨e', N', p', S', M', h', a', P', he, hv', hf, hN, hl, ho, _⟩ := hc
  obtain rfl : e' = 0 := by simpa using he.symm
  obtain rfl := hN rfl
  rcases ho with ⟨_, rfl, rfl, rfl, rfl, o1, o2, o3⟩ | x | x
  · refine ⟨p', S', _, _, _, K, Q, vs ++ [v], hv', by rw [hl]; exact hS, k2.commit, by omega, k3.commit (by rw [k2.len, hS]; decide) (by rw [k2.len]; decide) k1.sts k1.ha k1.good k2.used o1 o2 o3, by rw [Nat.add_sub_cancel]; exact k5, ?_, (fun h0 => by omega), (fun _ => ⟨by omega, rfl⟩), hF.s, hF.f, hF.c, by rw [List.length_append, hF.vs]; rfl, rowT_fr k1 k6 hf (by decide) (by decide) (by decide) (by decide) (by decide), ?_, hlo.fr k9 hf⟩
    · show h.gen + 1 = i + 1 + 1
      rw [hF.gen]
    · have e : (vs ++ [v]).getD (i + 1) (.slice none 0 0) = v := by
        rw [List.getD_eq_getElem?_getD, List.getElem?_append_right (by rw [hF.vs]; omega), hF.vs, Nat.sub_self]
        rfl
      rw [e]
      exact slAt_fr k1 k7 hf
  · cases x.1
  · cases x.1

/-- What a round's commit hands back. -/
def WhR (V1 : World) (A : Ad) (i : Nat) (vo : Value) (e : Ending) (W' : World) : Prop :=
  (e = .returned (.int .i64 0) ∧ WhI V1 A (i + 1) vo W') ∨ (e = .returned (.int .i64 4) ∧ WhT V1 A i (i + 2) vo W')
/-- A round's commit. -/
theorem whC_commit (k' : WhC V1 A p S h a L vs vo i k v W) (hS : S.length = 480) (hF : WhF h L i vs) (hT : Tab V1) (hlo : Lo V1 A) (hk : 0 < k) (hk5 : k ≤ 5) (hi : i ≤ 8) :
    ∃ (g cap : Nat) (r : Int), v = .slice (some ⟨g, 0, none⟩) k cap ∧ W.cell? ⟨g, 0, none⟩ = some (.int .i64 r) ∧ Calls Tryz.prog 19 #[.pointer (some ⟨A.st, 0, none⟩), .int .i64 r, .slice (some ⟨g, 0, none⟩) k cap] W (WhR V1 A i vo) := by
  have k0 := k'
  obtain ⟨P, K, Q, kq, k1, k2, k3, k4, k5, k6, k7, k8, k9⟩ := k'
  obtain ⟨g, cap, hv, hrow⟩ := k7
  have hQ0 : 0 < Q.length := by omega
  obtain ⟨g', cap', hv', _, _, hcl⟩ := rowT_at (d := .int .i64 0) hrow hQ0
  obtain ⟨c, cap2, hv2, hin⟩ := ints_row k1 hrow (fun x hx => by
    obtain ⟨q, rfl, h1, h2⟩ := k2.rg x hx
    constructor <;> omega)
  have hm := getD_mem Q 0 hQ0
  obtain ⟨q, hq, q1, q2⟩ := k2.rg _ hm
  have hg2 : goodH (nextH h (Q.getD 0 0)) = true := by rw [hq]; exact next_good (by rw [hF.gen]; omega) hF.s hF.f hF.c q q2
  have hmay : mayC h P (Q.getD 0 0) Q = true := by
    unfold mayC
    rw [hg2, k2.used, decide_eq_true (.inr hm)]
    rfl
  rw [hv] at hv' hv2
  simp only [Value.slice.injEq, Option.some.injEq, Addr.mk.injEq, and_true, true_and] at hv' hv2
  obtain ⟨rfl, rfl⟩ := hv'
  obtain ⟨rfl, rfl⟩ := hv2
  rw [kq] at hv
  have e0 : W.cell? ⟨g, 0, none⟩ = some (.int .i64 (Q.getD 0 0)) := by
    rw [hcl 0 hQ0, List.getD_eq_getElem?_getD, List.getElem?_map, List.getD_eq_getElem?_getD, List.getElem?_eq_getElem hQ0]
    rfl
  have CC := stCommitOk k1 (hT.kept k9 hT.lt) (Q.getD 0 0) _ cap Q hin (by omega) hmay
  rw [kq] at CC
  refine ⟨g, cap, Q.getD 0 0, hv, e0, CC.mono ?_⟩
  intro e W' hc
  have hc' := hc
  obtain ⟨e', N', p', S', M', h', a', P', rfl, _, _, _, _, ho, _⟩ := hc'
  rcases ho with ⟨rfl, _⟩ | ⟨rfl, _⟩ | ⟨rfl, _⟩
  · exact .inl ⟨rfl, whC_done hS hF hlo hk hk5 kq k1 k2 k3 k5 k6 ⟨g, cap, by rw [hv, kq], hrow⟩ k9 hg2 hc⟩
  · exact .inr ⟨rfl, whC_lost k0 hS hF hlo hk hk5 hi kq k1 k2 k3 k4 k5 k6 ⟨g, cap, by rw [hv, kq], hrow⟩ k8 k9 hg2 hc⟩
  · exact .inr ⟨rfl, whC_lost k0 hS hF hlo hk hk5 hi kq k1 k2 k3 k4 k5 k6 ⟨g, cap, by rw [hv, kq], hrow⟩ k8 k9 hg2 hc⟩
end
end Go.Proofs.YtefompndoopceaaGreatDoor
