import Derived.Test.YtkgjmejgkffbdaaGreatDoorIv7L
/- The laws' awake of layer 7. -/
set_option linter.unusedVariables false
namespace Go.Proofs.YtkgjmejgkffbdaaGreatDoor
open Go.RowKit

def hA0 : Hd := ⟨1, 0, 9, 3, 2⟩
theorem ku5 : ku 5 = 5 := ku_of 5 (by decide)

/-- node, since a world. -/
def NodeQ (k : Nat) (U : World) (e : Ending) (w' : World) : Prop :=
  ∃ g : Nat, e = .returned (.agg #[.int .i64 0, .slice (some ⟨g, 0, none⟩) 1 1]) ∧ IsPs w' (some ⟨g, 0, none⟩) (psK k) ∧ KeptIn (· < U.heap.size) U w'
theorem nodeQ (n : Int) (k : Nat) (hk : ku n = k) (U V : World) (h : KeptIn (· < U.heap.size) U V) : Calls Tryz.prog 12 #[.int .i64 n] V (NodeQ k U) := by
  refine (l7node n k hk V).mono ?_
  rintro e w' ⟨g, rfl, h1, _, h3⟩
  exact ⟨g, rfl, h1, h.step h3⟩
theorem sameQ (j k : Nat) (U V : World) (a b : Option Addr) (ca cb : Nat) (h : KeptIn (· < U.heap.size) U V) (ha : IsPs V a (psK j)) (hb : IsPs V b (psK k)) :
    Calls Tryz.prog 20 #[.agg #[.int .i64 0, .slice a 1 ca], .agg #[.int .i64 0, .slice b 1 cb]] V fun e w' => e = .returned (.bool (decide (j = k))) ∧ KeptIn (· < U.heap.size) U w' := by
  have := r5Same 0 0 a b ca cb (psK j) (psK k) V ha hb
  refine Calls.mono this ?_
  rintro e w' ⟨rfl, h2⟩
  refine ⟨?_, h.step h2⟩
  by_cases hjk : j = k
  · subst hjk; simp
  · rw [decide_eq_false hjk, decide_eq_false (fun h => hjk (psK_inj h.2))]
theorem headQ (A : Ad) (h : Hd) (a : Nat) (P : List Pag) (U V : World) (hk : KeptIn (· < U.heap.size) U V) (k : StAt A h a P V) : Calls Tryz.prog 24 #[.pointer (some ⟨A.st, 0, none⟩)] V fun e w' => e = .returned (headV h) ∧ KeptIn (· < U.heap.size) U w' := by
  refine (stHead A h a P V k).mono ?_
  rintro e w' ⟨rfl, h2⟩
  exact ⟨rfl, hk.step h2⟩

set_option maxHeartbeats 1000000 in
set_option maxRecDepth 100000 in
theorem awake7 (w : World) (hT : Tab w) : Calls Tryz.prog 5 #[] w fun e w' => e = .returned (.bool true) ∧ KeptIn (· < w.heap.size) w w' := by
  have CN := Lib.hid (begNew w)
  have HT := Lib.hid hT
  have CS : ∀ V, Calls Tryz.prog 9 #[] V fun e w' => e = .returned (.agg #[.int .i64 9, .int .i64 3]) ∧ KeptIn (· < V.heap.size) V w' := l7slots
  have HCS := Lib.hid CS
  have CK : ∀ V, Calls Tryz.prog 12 #[.int .i64 5] V (NodeS 5 V) := fun V => l7node 5 5 ku5 V
  have HCK := Lib.hid CK
  clear CS CK hT
  go_enter Tryz.func5, Tryz.ntmps5
  go_wp2_with (go_at_call 6; refine CN.out.mono ?_; rintro e W1 ⟨rfl, hP1, k1⟩; have H1 := Lib.hid (And.intro hP1 k1); clear hP1 k1)
  refine (begDev w W1 w.heap.size pw0 64 64 H1.out.2 H1.out.1 (by decide)).mono ?_
  rintro e W2 hR
  unfold DevS at hR
  obtain ⟨d, s, b, rfl, q1, q2, q3, q4, q5, q6, q7⟩ := hR
  have H2 := Lib.hid (And.intro q1 (And.intro q2 (And.intro q3 (And.intro q4 (And.intro q5 q6)))))
  clear q1 q2 q3 q4 q5 q6 q7 H1 CN
  go_wp2_with fail
  refine (HCS.out W2).mono ?_
  rintro e W3 ⟨rfl, k3⟩
  have H3 := Lib.hid (And.intro (H2.out.1.kept k3 H2.out.1.ltd H2.out.1.lts H2.out.1.ltb) (And.intro (H2.out.2.1.kept k3 H2.out.2.1.lt) (H2.out.2.2.1.step k3)))
  clear k3
  go_wp2_with fail
  refine (begFor w W3 d w.heap.size s b 64 4 pw0 9 3 2 H3.out.2.2 HT.out H3.out.1 H3.out.2.1 pw0_sure H2.out.2.2.2.1 (Nat.le_refl _) H2.out.2.2.2.2.1 H2.out.2.2.2.2.2 (by decide) (by decide) (by decide)).mono ?_
  rintro e W4 hR
  unfold ForS at hR
  obtain ⟨st, pg, p, rfl, hbg⟩ := hR
  unfold Begun at hbg
  obtain ⟨A, hA⟩ : ∃ A : Ad, A = ⟨d, w.heap.size, s, b, st, pg⟩ := ⟨_, rfl⟩
  rw [← hA] at hbg
  have hd : d = A.d := by rw [hA]
  have hst : st = A.st := by rw [hA]
  subst hst
  subst hd
  have H4 := Lib.hid hbg
  clear hbg H3 H2 hA
  go_wp2_with fail
  refine (HCK.out W4).mono ?_
  rintro e W5 hR
  unfold NodeS at hR
  obtain ⟨g, rfl, hps, hg, k5⟩ := hR
  have hv5 := H4.out.1.old k5
  have hk5 := H4.out.2.2.2.step k5
  have CA : Calls Tryz.prog 11 #[.pointer (some ⟨A.st, 0, none⟩), .agg #[.int .i64 0, .slice (some ⟨g, 0, none⟩) 1 1]] W5 _ := stAddOk hv5 (HT.out.kept hk5 HT.out.lt) 0 (some ⟨g, 0, none⟩) 1 (psK 5) hps (psK_good 5) 1 (noP_free 4 (by decide))
  have HCA := Lib.hid CA
  have H5 := Lib.hid hk5
  clear CA hv5 hk5 hps hg k5
  go_wp2_with (go_at_call 11; refine HCA.out.mono ?_; rintro e W6 ⟨rfl, hv6, f6⟩)
  obtain ⟨P1, hP1⟩ : ∃ P1, (noP 4).set 1 (1, bytesN 0 (psK 5)) = P1 := ⟨_, rfl⟩
  have hl1 : P1.length = 4 := by rw [← hP1, List.length_set, noP_length]
  have hs1 : stOf P1 1 = 1 := by rw [← hP1, stOf_set _ _ _ _ (by rw [noP_length]; decide), if_pos rfl]
  have ht1 : txOf P1 1 = bytesK 5 := by rw [← hP1, txOf_set _ _ _ _ (by rw [noP_length]; decide), if_pos rfl]; rfl
  have hso : ∀ q, q ≠ 1 → stOf P1 q = 0 := fun q hq => by rw [← hP1, stOf_set _ _ _ _ (by rw [noP_length]; decide), if_neg hq, noP_st]
  have hI1 : Inv hA0 0 P1 (formS (List.replicate 64 zeroS) (fun _ => none) hA0) (fun r => if r = 1 then 5 else 0) := by
    rw [← hP1]
    exact (inv_format 64 4 hA0 (by decide) (by decide) (fun _ => 0)).add 1 5 (by rw [noP_length]; decide) (noP_st _ _)
  rw [hP1] at hv6
  have hk6 := H4.out.2.2.1.fr H5.out f6
  have H6 := Lib.hid (And.intro hv6 hk6)
  have HP1 := Lib.hid (And.intro hl1 (And.intro hs1 (And.intro ht1 (And.intro hso hI1))))
  clear hv6 hk6 f6 H5 HCA hP1 hl1 hs1 ht1 hso hI1
  obtain ⟨hb1, hb2, hb3⟩ := bytesK_read 5 (by decide)
  have CR := stReadNew A _ _ P1 1 (bytesK 5) W6 H6.out.1.isS (HT.out.kept H6.out.2 HT.out.lt) (Nat.le_refl _) (by rw [HP1.out.1]; decide) HP1.out.2.1 HP1.out.2.2.1 (by rw [bytesK_length]; decide) (by rw [HP1.out.1]; decide)
  rw [hb1, if_pos rfl] at CR
  have HCR := Lib.hid CR
  have HB := Lib.hid (And.intro hb1 (And.intro hb2 hb3))
  clear CR hb1 hb2 hb3
  go_wp2_with (go_at_call 19; refine HCR.out.mono ?_)
  rintro e W7 hR
  unfold ReadL at hR
  obtain ⟨a7, cap7, rfl, hps7, k7⟩ := hR
  rw [HB.out.2.2] at hps7 ⊢
  rw [HB.out.2.1]
  unfold leafV
  have hlen : (psK 5).length = 1 := rfl
  rw [hlen]
  obtain ⟨W8, hW8⟩ : ∃ W8, W7.alloc (.cells #[.int .i64 0, .slice a7 1 cap7] 47) = W8 := ⟨_, rfl⟩
  have k8 : KeptIn (· < W7.heap.size) W7 W8 := by rw [← hW8]; exact (KeptIn.refl _ W7).alloc (fun _ h => h) _
  have hbx : BoxL W7.heap.size 0 a7 1 cap7 W8 := by rw [← hW8]; exact BoxL.new W7 0 a7 1 cap7
  obtain ⟨bl, hbl⟩ : ∃ bl, W7.heap.size = bl := ⟨_, rfl⟩
  rw [hbl] at hbx
  have h68 : KeptIn (· < W6.heap.size) W6 W8 := k7.step k8
  -- the row of one page
  obtain ⟨W9, hW9⟩ : ∃ W9, W8.alloc (.cells #[.int .i64 1] 3) = W9 := ⟨_, rfl⟩
  have k9 : KeptIn (· < W8.heap.size) W8 W9 := by rw [← hW9]; exact (KeptIn.refl _ W8).alloc (fun _ h => h) _
  have hv9 := H6.out.1.old (h68.step k9)
  have HV9 := Lib.hid hv9
  have hz8 : W8.heap.size = bl + 1 := by rw [← hW8, World.size_alloc, hbl]
  have hg9 : W9.heap[W8.heap.size]? = some (.cells #[.int .i64 1] 3 (0, 0)) := by rw [← hW9]; exact heap_alloc_new W8 _
  have hi9 : IntsIn A W9 (some ⟨W8.heap.size, 0, none⟩) [1] := ints_one A W9 1 _ (by constructor <;> decide) hg9 (fun hh => by
    have := (H6.out.1.old h68).lts _ hh
    omega)
  have hk9 := H6.out.2.step (h68.step k9)
  rw [hz8] at hi9
  have hmay : mayC hA0 P1 1 [1] = true := by
    unfold mayC
    have e1 : goodH (nextH hA0 1) = true := by decide
    have e2 : usedB P1 (1 : Int) = true := usedB_of (q := 1) (Nat.le_refl _) (by rw [HP1.out.1]; decide) (by rw [HP1.out.2.1]; decide)
    rw [e1, Bool.true_and]
    simp [e2]
  have CC : Calls Tryz.prog 17 #[.pointer (some ⟨A.st, 0, none⟩), .int .i64 1, .slice (some ⟨bl + 1, 0, none⟩) 1 1] W9 _ := stCommitOk hv9 (HT.out.kept hk9 HT.out.lt) 1 (some ⟨bl + 1, 0, none⟩) 1 [1] hi9 (by decide) hmay
  have HCC := Lib.hid CC
  have H9 := Lib.hid (And.intro hk9 (And.intro (hbx.kept k9 hbx.lt) (hps7.old (k8.step k9))))
  have HNA : Hid (¬ A.has bl) := Lib.hid fun hh => by
    have h1 := (H6.out.1.old k7).lts _ hh
    omega
  have HW8 := Lib.hid hW8
  have HW9 := Lib.hid hW9
  have HBL := Lib.hid hbl
  clear hbl
  clear CC hv9 hi9 hk9 hmay hbx hps7 k7 k8 k9 h68 hg9 hlen hW8 hW9 HCR hz8
  go_wp2_with (go_at_call 17; rw [HW8.out, HW9.out, HBL.out]; refine HCC.out.mono ?_)
  rintro e W10 hR
  unfold CommS at hR
  obtain ⟨e1, N1, p1, S1, M1, h1, a1, P2, rfl, hv, hf, hN, hl, ho, hs⟩ := hR
  obtain ⟨rfl, hs1⟩ := hs H4.out.2.1
  obtain rfl : N1 = 0 := hN rfl
  rcases ho with ⟨_, rfl, rfl, rfl, rfl, o1, o2, o3⟩ | ⟨h0, _⟩ | ⟨h0, _⟩
  rotate_left
  · cases h0
  · cases h0
  have hu : ([1] : List Int).all (usedB P1) = true := by
    have e2 : usedB P1 (1 : Int) = true := usedB_of (q := 1) (Nat.le_refl _) (by rw [HP1.out.1]; decide) (by rw [HP1.out.2.1]; decide)
    simp [e2]
  have hle : ∀ q, stOf P1 q ≤ 2 := fun q => by
    by_cases e : q = 1
    · rw [e, HP1.out.2.1]; decide
    · rw [HP1.out.2.2.2.1 q e]; decide
  have hI2 := HP1.out.2.2.2.2.commit (root := 1) (by rw [HP1.out.1, formS_length]; simp) (by rw [HP1.out.1]; decide) hle (Nat.zero_le _) (by decide) hu o1 o2 o3
  have hnew := hI2.heads.newest (by decide) (by decide)
  have hpage := hI2.kept 1 (Nat.le_refl _) (by rw [commit_length, HP1.out.1]; decide) (by rw [commit_st P1 [1] 1 (hle 1), if_pos ⟨by rw [HP1.out.1]; decide, Nat.le_refl _, by simp⟩])
  rw [if_pos rfl] at hpage
  have hc : ∀ q, 1 ≤ q → q < 4 → decide (stOf (sweepP (keepP P1 [1]) []) q = 0) = (decide (2 ≤ q) && decide (q < 4)) := fun q q1 q2 => by
    rw [commit_st P1 [1] q (hle q)]
    by_cases e : q = 1
    · subst e
      rw [if_pos ⟨by rw [HP1.out.1]; decide, Nat.le_refl _, by simp⟩]
      rfl
    · rw [if_neg (fun h => e (by have := h.2.2; simp at this; omega))]
      simp
      omega
  have hcnt : cntS (sweepP (keepP P1 [1]) []) 0 = 2 := by
    unfold cntS
    rw [commit_length, HP1.out.1, cntB_congr hc, cntB_between 2 4 4 (by decide) (by decide)]
    rfl
  have hk10 := H4.out.2.2.1.fr H9.out.1 hf
  have hn16 : min (S1.length / 16) 512 = 4 := by rw [hl, formS_length]; simp
  have CO := stOpenSome A.d A.m A.s A.b 0 p1 S1 (fun _ => none) W10 hv.isD hv.isP hs1.1 (HT.out.kept hk10 HT.out.lt) 4 hn16 (by decide) (nextH hA0 1) (1 - 0) hnew
  have HCO := Lib.hid CO
  have HPS10 := Lib.hid (ps_fr HV9.out H9.out.2.2 hf)
  have H10 := Lib.hid (And.intro hv (And.intro hk10 (And.intro (H9.out.2.1.kept hf ⟨H9.out.2.1.lt, HNA.out⟩) hs1)))
  have HM := Lib.hid (And.intro hpage hcnt)
  clear hv hf hN hl o1 o2 o3 hs hs1 hu hle hI2 hnew hpage hcnt hk10 hn16 CO HCC HW8 HW9
  go_wp2_with (go_at_call 29; refine HCO.out.mono ?_)
  rintro e W11 hR
  unfold OpenS at hR
  obtain ⟨st2, pg2, rfl, hv2, k11, _, _⟩ := hR
  obtain ⟨A2, hA2⟩ : ∃ A2 : Ad, A2 = ⟨A.d, A.m, A.s, A.b, st2, pg2⟩ := ⟨_, rfl⟩
  rw [← hA2] at hv2
  have hst2 : st2 = A2.st := by rw [hA2]
  subst hst2
  have hk11 := H10.out.2.1.step k11
  have CR2 := stReadDev 1 (bytesK 5) W11 hv2 (HT.out.kept hk11 HT.out.lt) H10.out.2.2.2.1 (Nat.le_refl _) (by rw [noP_length]; decide) (by rw [noP_st]; decide) HM.out.1
  rw [HB.out.1, if_pos rfl] at CR2
  have HCR2 := Lib.hid CR2
  have hbx : BoxL bl 0 a7 1 cap7 W11 := H10.out.2.2.1.kept k11 H10.out.2.2.1.lt
  have hps : IsPs W11 a7 (psK 5) := HPS10.out.old k11
  have hv := H10.out.1.old k11
  have H11 := Lib.hid (And.intro hv (And.intro hv2 (And.intro hk11 (And.intro hbx hps))))
  clear hv2 hk11 CR2 hbx hps hv k11 hA2 HCO
  go_wp2_with (go_at_call 19; refine HCR2.out.mono ?_)
  rintro e W12 hR
  unfold ReadL at hR
  obtain ⟨a12, cap12, rfl, hps12, k12⟩ := hR
  rw [HB.out.2.2] at hps12 ⊢
  rw [HB.out.2.1]
  unfold leafV
  have hlen : (psK 5).length = 1 := rfl
  rw [hlen]
  obtain ⟨W13, hW13⟩ : ∃ W13, W12.alloc (.cells #[.int .i64 0, .slice a12 1 cap12] 47) = W13 := ⟨_, rfl⟩
  have k13 : KeptIn (· < W12.heap.size) W12 W13 := by rw [← hW13]; exact (KeptIn.refl _ W12).alloc (fun _ h => h) _
  have hbk : BoxL W12.heap.size 0 a12 1 cap12 W13 := by rw [← hW13]; exact BoxL.new W12 0 a12 1 cap12
  have hk := k12.step k13
  have hbx := H11.out.2.2.2.1.kept hk H11.out.2.2.2.1.lt
  have hps := H11.out.2.2.2.2.old hk
  have hps12' := hps12.old k13
  have hvs := H11.out.1.old hk
  have hvu := H11.out.2.1.old hk
  have hk0 : KeptIn (· < W13.heap.size) W13 W13.drew := (KeptIn.refl _ _).drew
  have HX : Hid (∀ V, KeptIn (· < W13.heap.size) W13 V → (V.cell? ⟨bl, 0, none⟩ = some (.int .i64 0) ∧ V.cell? ⟨bl, 1, none⟩ = some (.slice a7 1 cap7)) ∧ (V.cell? ⟨W12.heap.size, 0, none⟩ = some (.int .i64 0) ∧ V.cell? ⟨W12.heap.size, 1, none⟩ = some (.slice a12 1 cap12)) ∧ IsPs V a7 (psK 5) ∧ IsPs V a12 (psK 5)) := Lib.hid fun V hV =>
    ⟨⟨(hbx.kept hV hbx.lt).c0, (hbx.kept hV hbx.lt).c1⟩, ⟨(hbk.kept hV hbk.lt).c0, (hbk.kept hV hbk.lt).c1⟩, hps.old hV, hps12'.old hV⟩
  have HN := Lib.hid fun V (hV : KeptIn (· < W13.heap.size) W13 V) => nodeQ 5 5 ku5 W13 V hV
  have HS := Lib.hid fun V a b ca cb (hV : KeptIn (· < W13.heap.size) W13 V) (ha : IsPs V a (psK 5)) (hb : IsPs V b (psK 5)) => sameQ 5 5 W13 V a b ca cb hV ha hb
  have HHd : Hid (∀ V, KeptIn (· < W13.heap.size) W13 V → Calls Tryz.prog 24 #[.pointer (some ⟨A2.st, 0, none⟩)] V fun e w' => e = .returned (.agg #[.int .u64 2, .int .i64 1, .int .i64 9, .int .i64 3, .int .i64 2]) ∧ KeptIn (· < W13.heap.size) W13 w') := Lib.hid fun V hV => headQ A2 _ _ _ W13 V hV (hvu.old hV).isS
  have HPg : Hid (∀ V, KeptIn (· < W13.heap.size) W13 V → Calls Tryz.prog 25 #[.pointer (some ⟨A.st, 0, none⟩)] V fun e w' => e = .returned (.int .i64 4) ∧ V = w') := Lib.hid fun V hV => by
    have := stPages A _ _ _ V (hvs.old hV).isS
    rw [commit_length, HP1.out.1] at this
    exact this
  have HFr : Hid (∀ V, KeptIn (· < W13.heap.size) W13 V → Calls Tryz.prog 26 #[.pointer (some ⟨A.st, 0, none⟩)] V fun e w' => e = .returned (.int .i64 2) ∧ V = w') := Lib.hid fun V hV => by
    have := stFree A _ _ _ V (hvs.old hV).isS (by rw [commit_length, HP1.out.1]; decide) (by rw [commit_length, HP1.out.1]; decide)
    rw [HM.out.2] at this
    exact this
  have HK13 := Lib.hid (H11.out.2.2.1.step hk)
  have HW13 := Lib.hid hW13
  obtain ⟨bk, hbk'⟩ : ∃ bk, W12.heap.size = bk := ⟨_, rfl⟩
  have HBK := Lib.hid hbk'
  rw [hbk'] at HX
  clear hk hbx hps hps12' hvs hvu hbk k13 k12 hps12 hlen hW13 HCR2 HCS HCK hbk'
  clear hk0
  go_wp2_with fail
  rw [HW13.out, HBK.out]
  have hk0 : KeptIn (· < W13.heap.size) W13 W13.drew := (KeptIn.refl _ _).drew
  obtain ⟨⟨c0, c1⟩, ⟨d0, d1⟩, p0, p1'⟩ := HX.out _ hk0
  have hf0 := run_gen 2 1 9 3 2
  have hf1 := run_root 2 1 9 3 2
  go_region_held3 (fun w' => (w'.cell? ⟨bl, 0, none⟩ = some (.int .i64 0) ∧ w'.cell? ⟨bl, 1, none⟩ = some (.slice a7 1 cap7)) ∧ (w'.cell? ⟨bk, 0, none⟩ = some (.int .i64 0) ∧ w'.cell? ⟨bk, 1, none⟩ = some (.slice a12 1 cap12)))
    (first | exact ⟨(HX.out _ hk).1, (HX.out _ hk).2.1⟩ | exact ⟨⟨c0, c1⟩, ⟨d0, d1⟩⟩)
    (first
      | (go_at_call 12; refine Calls.mono (HN.out _ (by first | exact hk | exact hk0)) ?_; rintro e w' hR; unfold NodeQ at hR; obtain ⟨g, rfl, hg, hk⟩ := hR)
      | (go_at_call 20; refine Calls.mono (HS.out _ _ _ _ _ hk (by first | exact (HX.out _ hk).2.2.1 | exact (HX.out _ hk).2.2.2) hg) ?_; rintro e w' ⟨rfl, hk⟩)
      | (go_at_call 24; refine Calls.mono (HHd.out _ hk) ?_; rintro e w' ⟨rfl, hk⟩)
      | (go_at_call 25; refine Calls.mono (HPg.out _ hk) ?_; rintro e w' ⟨rfl, rfl⟩)
      | (go_at_call 26; refine Calls.mono (HFr.out _ hk) ?_; rintro e w' ⟨rfl, rfl⟩))
  all_goals
    go_wp2_with fail
    go_ret
    exact ⟨rfl, HK13.out.step (by assumption)⟩

end Go.Proofs.YtkgjmejgkffbdaaGreatDoor
