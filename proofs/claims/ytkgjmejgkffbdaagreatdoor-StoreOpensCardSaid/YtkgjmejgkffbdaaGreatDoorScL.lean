import Derived.Test.YtkgjmejgkffbdaaGreatDoorShL
import Derived.Test.YtkgjmejgkffbdaaGreatDoorHbL
/- A store's Commit. -/
set_option linter.unusedVariables false
namespace Go.Proofs.YtkgjmejgkffbdaaGreatDoor
open Go.RowKit


set_option maxHeartbeats 2000000 in
set_option maxRecDepth 100000 in
theorem stCommitBad {A : Ad} {N : Nat} {p : Pw} {S : List (List UInt8)} {M : Int → Option (List UInt8)} {h : Hd} {a : Nat} {P : List Pag} {w : World} (k : Sv A N p S M h a P w) (hT : Tab w) (root : Int) (a' : Option Addr) (cap : Nat) (l : List Int) (hi : IntsIn A w a' l) (hbad : mayC h P root l = false) :
    Calls Tryz.prog 17 #[.pointer (some ⟨A.st, 0, none⟩), .int .i64 root, .slice a' l.length cap] w fun e w' => e = .returned (.int .i64 1) ∧ KeptIn (· < w.heap.size) w w' := by
  obtain ⟨g, r, s, f, c⟩ := h
  have hgen : g ≤ 4294967295 := by
    have h1 : (⟨g, r, s, f, c⟩ : Hd).can := of_decide_eq_true k.good
    exact h1.2.1
  have hw1 : IntKind.u64.wrap ((g : Int) + 1) = ((g + 1 : Nat) : Int) := wrap_gen g hgen
  obtain ⟨g', hg'⟩ : ∃ g', g + 1 = g' := ⟨_, rfl⟩
  have hw2 : ((g : Int) + 1) % 18446744073709551616 = (g' : Int) := by omega
  rw [hg'] at hw1
  obtain ⟨B, hB⟩ : ∃ B, w.heap.size = B := ⟨_, rfl⟩
  obtain ⟨W0, hW0⟩ : ∃ W0, w.alloc (.cells #[.int .u64 g', .int .i64 root, .int .i64 s, .int .i64 f, .int .i64 c] 39) = W0 := ⟨_, rfl⟩
  have hx0 : BoxH B ⟨g', root, s, f, c⟩ W0 := by rw [← hW0, ← hB]; exact BoxH.new w ⟨g', root, s, f, c⟩
  have hk0 : KeptIn (· < w.heap.size) w W0 := by rw [← hW0]; exact (KeptIn.refl _ w).alloc (fun _ h => h) _
  have k0 := k.old hk0
  have hT0 := hT.old hk0
  have hi0 := hi.old hk0
  have q0 := k.isS.old ((KeptIn.refl _ w).alloc (fun _ h => h) (.cells #[.int .u64 0, .int .i64 0, .int .i64 0, .int .i64 0, .int .i64 0] 39))
  have c1 := k.isS.c1; have c2 := k.isS.c2; have c3 := k.isS.c3; have c4 := k.isS.c4; have c5 := k.isS.c5
  simp only at c1 c2 c3 c4 c5
  unfold mayC nextH at hbad
  simp only at hbad
  rw [hg'] at hbad
  have CU := fun V (hk : KeptIn (· < W0.heap.size) W0 V) => stInUse A _ a P a' cap l V (k0.old hk).isS (hi0.old hk)
  have CL := fun V (hk : KeptIn (· < W0.heap.size) W0 V) => stLeads A root a' cap l V (hi0.old hk)
  obtain ⟨n, hn⟩ : ∃ n, l.length = n := ⟨_, rfl⟩
  rw [hn]
  simp only [hn] at CU CL
  have HW0 := Lib.hid hW0
  have HK0 := Lib.hid hk0
  cases hg : goodH ⟨g', root, s, f, c⟩ with
  | false =>
    have CB := Lib.hid (hdBytesBad ⟨g', root, s, f, c⟩ hg W0)
    unfold headV at CB
    clear k hi hT hbad k0 hT0 hi0 hx0 hk0 hW0 CU CL hn hg hB hg' hgen q0
    go_enter Tryz.func17, Tryz.ntmps17
    go_wp2_with (go_at_call 35; rw [HW0.out]; refine CB.out.mono ?_; rintro e W1 ⟨rfl, k1⟩)
    go_ret
    exact ⟨rfl, HK0.out.step k1⟩
  | true =>
    rw [hg, Bool.true_and] at hbad
    have CB := Lib.hid (hdBytesOk ⟨g', root, s, f, c⟩ hg W0 hT0)
    unfold headV at CB
    obtain ⟨bs, hbs⟩ : ∃ bs, bytesH ⟨g', root, s, f, c⟩ = bs := ⟨_, rfl⟩
    rw [hbs] at CB
    have HCU := Lib.hid CU
    have HCL := Lib.hid CL
    cases hu : l.all (usedB P) with
    | false =>
      rw [hu] at HCU
      clear k hi hT hbad k0 hT0 hi0 hx0 hk0 hW0 CU CL hn hg hB hg' hgen q0 hbs hu HCL
      go_enter Tryz.func17, Tryz.ntmps17
      go_wp2_with (first
        | (go_at_call 35; rw [HW0.out]; refine CB.out.mono ?_; rintro e W1 ⟨rfl, k1⟩; have HCU1 := Lib.hid (HCU.out W1 k1); have K1 := Lib.hid k1; clear k1)
        | (go_at_call 45; refine HCU1.out.mono ?_; rintro e W2 ⟨rfl, k2⟩))
      go_ret
      exact ⟨rfl, (HK0.out.step K1.out).step k2⟩
    | true =>
      rw [hu] at HCU
      rw [hu, Bool.true_and] at hbad
      rw [hbad] at HCL
      clear k hi hT hbad k0 hT0 hi0 hx0 hk0 hW0 CU CL hn hg hB hg' hgen q0 hbs hu
      go_enter Tryz.func17, Tryz.ntmps17
      go_wp2_with (first
        | (go_at_call 35; rw [HW0.out]; refine CB.out.mono ?_; rintro e W1 ⟨rfl, k1⟩; have HCU1 := Lib.hid (HCU.out W1 k1); have K1 := Lib.hid k1; clear k1)
        | (go_at_call 45; refine HCU1.out.mono ?_; rintro e W2 ⟨rfl, k2⟩; have HCL1 := Lib.hid (HCL.out W2 (K1.out.step k2)); have K2 := Lib.hid k2; clear k2)
        | (go_at_call 46; refine HCL1.out.mono ?_; rintro e W3 ⟨rfl, rfl⟩))
      go_ret
      exact ⟨rfl, (HK0.out.step K1.out).step K2.out⟩


set_option maxHeartbeats 4000000 in
set_option maxRecDepth 100000 in
theorem stCommitOk {A : Ad} {p : Pw} {S : List (List UInt8)} {h : Hd} {a : Nat} {P : List Pag} {w : World} (k : Sv A 0 p S (fun _ => none) h a P w) (hT : Tab w) (root : Int) (a' : Option Addr) (cap : Nat) (l : List Int) (hi : IntsIn A w a' l) (hl : l.length ≤ 100000) (hok : mayC h P root l = true) :
    Calls Tryz.prog 17 #[.pointer (some ⟨A.st, 0, none⟩), .int .i64 root, .slice a' l.length cap] w (CommS A w p S h a P root l) := by
  have hAlt := k.lts
  have hok' := hok
  unfold mayC at hok'
  simp only [Bool.and_eq_true, decide_eq_true_eq] at hok'
  obtain ⟨⟨hg0, hu⟩, hlead⟩ := hok'
  have hlead' : decide (root = 0 ∨ root ∈ l) = true := decide_eq_true hlead
  obtain ⟨nx, hnx⟩ : ∃ nx, nextH h root = nx := ⟨_, rfl⟩
  obtain ⟨x, hx⟩ : ∃ x, 1 - a = x := ⟨_, rfl⟩
  have ha := k.ha
  have hbl : (bytesH nx).length = 16 := bytesH_length nx
  have hsts := k.sts
  have htxs := k.txs
  -- how it may end
  have hend1 : ∀ W (Sa : List (List UInt8)) (Ma : Int → Option (List UInt8)) (pa : Pw) (Na : Nat), Sv A Na pa Sa Ma h a P W → Fr A w W → Sa.length = S.length → (Sa = S ∧ ∀ x : Nat, ¬ inNewI P l x → Ma (x : Int) = none) → ¬ p.sure → CommS A w p S h a P root l (.returned (.int .i64 4)) W := fun W Sa Ma pa Na ka fa hla ho hs =>
    ⟨4, _, _, _, _, _, _, _, rfl, ka, fa, (fun h => by cases h), hla, .inr (.inl ⟨rfl, ho.1, ho.2⟩), fun h => absurd h hs⟩
  have hend2 : ∀ W (Sa Sb : List (List UInt8)) (Mb : Int → Option (List UInt8)) (pb : Pw) (Nb : Nat), Sv A Nb pb Sb Mb h a P W → Fr A w W → Sb.length = S.length → Sb = Sa → (∀ x, x < S.length → ¬ inNewI P l x → Sa.getD x [] = S.getD x []) → (∀ q : Nat, (q : Int) ∈ l → stOf P q = 1 → ∀ i, i < 16 → Sa.getD (16 * q + i) [] = nth (txOf P q) i) → (∀ i : Nat, i ≠ x → Mb (i : Int) = none) → (Mb (x : Int) = none ∨ Mb (x : Int) = some (bytesH nx)) → ¬ p.sure →
      CommS A w p S h a P root l (.returned (.int .i64 4)) W := fun W Sa Sb Mb pb Nb kb fb hlb he o1 o2 o3 o4 hs => by
    subst he
    exact ⟨4, _, _, _, _, _, _, _, rfl, kb, fb, (fun h => by cases h), hlb, .inr (.inr ⟨rfl, o1, o2, by rw [hx]; exact o3, by rw [hx, hnx]; exact o4⟩), fun h => absurd h hs⟩
  have hend3 : ∀ W (Sa Sb : List (List UInt8)) (pb : Pw), Sv A 0 pb Sb (fun _ => none) nx x (sweepP (keepP P l) []) W → Fr A w W → Sa.length = S.length → Sb.length = Sa.length → (∀ x, x < S.length → ¬ inNewI P l x → Sa.getD x [] = S.getD x []) → (∀ q : Nat, (q : Int) ∈ l → stOf P q = 1 → ∀ i, i < 16 → Sa.getD (16 * q + i) [] = nth (txOf P q) i) → (∀ i, i < Sa.length → i ≠ x → Sb.getD i [] = Sa.getD i []) → Sb.getD x [] = bytesH nx → (p.sure → pb.sure) →
      CommS A w p S h a P root l (.returned (.int .i64 0)) W := fun W Sa Sb pb kb fb hla hlb o1 o2 o3 o4 hs => by
    refine ⟨0, _, _, _, _, _, _, _, rfl, kb, fb, fun _ => rfl, by rw [hlb, hla], .inl ⟨rfl, rfl, hnx.symm, hx.symm, rfl, fun i hi hne hnot => ?_, by rw [hx, hnx]; exact o4, fun q hq hs1 i hi => ?_⟩, fun h => ⟨rfl, hs h⟩⟩
    · rw [hx] at hne
      rw [o3 i (by omega) hne]
      exact o1 i hi hnot
    · have hq1 := List.all_eq_true.1 hu _ hq
      unfold usedB holdsB at hq1
      simp only [Bool.and_eq_true, decide_eq_true_eq] at hq1
      have hpl := k.plen
      rw [o3 (16 * q + i) (by omega) (by omega)]
      exact o2 q hq hs1 i hi
  have HE1 := Lib.hid hend1
  have HE2 := Lib.hid hend2
  have HE3 := Lib.hid hend3
  have HNX : Hid (goodH nx = true ∧ x ≤ 1) := Lib.hid ⟨by rw [← hnx]; exact hg0, by omega⟩
  have HBL := Lib.hid hbl
  have HST := Lib.hid (And.intro hsts htxs)
  have b1 : wrap64 (1 - (a : Int)) = (x : Int) := by unfold wrap64; omega
  clear hend1 hend2 hend3 hlead hok hbl hsts htxs
  obtain ⟨g, r, s, f, c⟩ := h
  have hgen : g ≤ 4294967295 := by
    have h1 : (⟨g, r, s, f, c⟩ : Hd).can := of_decide_eq_true k.good
    exact h1.2.1
  have hw1 : IntKind.u64.wrap ((g : Int) + 1) = ((g + 1 : Nat) : Int) := wrap_gen g hgen
  obtain ⟨g', hg'⟩ : ∃ g', g + 1 = g' := ⟨_, rfl⟩
  have hw2 : ((g : Int) + 1) % 18446744073709551616 = (g' : Int) := by omega
  rw [hg'] at hw1
  obtain ⟨B, hB⟩ : ∃ B, w.heap.size = B := ⟨_, rfl⟩
  obtain ⟨W0, hW0⟩ : ∃ W0, w.alloc (.cells #[.int .u64 g', .int .i64 root, .int .i64 s, .int .i64 f, .int .i64 c] 39) = W0 := ⟨_, rfl⟩
  have hx0 : BoxH B ⟨g', root, s, f, c⟩ W0 := by rw [← hW0, ← hB]; exact BoxH.new w ⟨g', root, s, f, c⟩
  have hk0 : KeptIn (· < w.heap.size) w W0 := by rw [← hW0]; exact (KeptIn.refl _ w).alloc (fun _ h => h) _
  have k0 := k.old hk0
  have hT0 := hT.old hk0
  have hi0 := hi.old hk0
  have q0 := k.isS.old ((KeptIn.refl _ w).alloc (fun _ h => h) (.cells #[.int .u64 0, .int .i64 0, .int .i64 0, .int .i64 0, .int .i64 0] 39))
  have c1 := k.isS.c1; have c2 := k.isS.c2; have c3 := k.isS.c3; have c4 := k.isS.c4; have c5 := k.isS.c5
  simp only at c1 c2 c3 c4 c5
  have hnb : ¬ A.has B := fun hh => by have := hAlt B hh; omega
  have hnx' : nx = ⟨g', root, s, f, c⟩ := by rw [← hnx, ← hg']; rfl
  subst hnx'
  have CB := Lib.hid (hdBytesOk ⟨g', root, s, f, c⟩ HNX.out.1 W0 hT0)
  unfold headV at CB
  obtain ⟨bs, hbs⟩ : ∃ bs, bytesH ⟨g', root, s, f, c⟩ = bs := ⟨_, rfl⟩
  rw [hbs] at CB HBL
  simp only [hbs] at HE2 HE3
  have CU := fun V (hk : KeptIn (· < W0.heap.size) W0 V) => stInUse A _ a P a' cap l V (k0.old hk).isS (hi0.old hk)
  have CL := fun V (hk : KeptIn (· < W0.heap.size) W0 V) => stLeads A root a' cap l V (hi0.old hk)
  have CN := fun V (hk : KeptIn (· < W0.heap.size) W0 V) => stNew (k0.old hk) a' cap l (hi0.old hk) hl hu
  rw [hu] at CU
  rw [hlead'] at CL
  have hcar : ∀ V W, KeptIn (· < W0.heap.size) W0 V → Fr A V W → BoxH B ⟨g', root, s, f, c⟩ W ∧ Fr A w W ∧ IntsIn A W a' l := fun V W hV hW => by
    have h1 := hx0.kept hV hx0.lt
    exact ⟨h1.kept hW ⟨h1.lt, hnb⟩, (Fr.of_old (hk0.step hV)).trans' hW, (hi0.old hV).fr hW⟩
  have HCAR := Lib.hid hcar
  have HBB := Lib.hid hB
  have HNB := Lib.hid hnb
  obtain ⟨n, hn⟩ : ∃ n, l.length = n := ⟨_, rfl⟩
  have HLN := Lib.hid hn
  rw [hn]
  simp only [hn] at CU CL CN
  have HW0 := Lib.hid hW0
  have HCU := Lib.hid CU
  have HCL := Lib.hid CL
  have HCN := Lib.hid CN
  clear k hi hT k0 hT0 hi0 hx0 hk0 hW0 CU CL CN hn hB hg' hgen q0 hbs hu hlead' hcar hAlt hnb hnx hx ha hg0
  go_enter Tryz.func17, Tryz.ntmps17
  go_wp2_with (first
    | (go_at_call 35; rw [HW0.out]; refine CB.out.mono ?_; rintro e W1 ⟨rfl, k1⟩; have HCU1 := Lib.hid (HCU.out W1 k1); have K1 := Lib.hid k1; clear k1)
    | (go_at_call 45; refine HCU1.out.mono ?_; rintro e W2 ⟨rfl, k2⟩; have HCL1 := Lib.hid (HCL.out W2 (K1.out.step k2)); have K2 := Lib.hid (K1.out.step k2); clear k2)
    | (go_at_call 46; refine HCL1.out.mono ?_; rintro e W3 ⟨rfl, rfl⟩)
    | (go_at_call 47; refine (HCN.out _ K2.out).mono ?_))
  rintro e W4 hR
  unfold NewS at hR
  obtain ⟨e4, N4, p4, S4, M4, rfl, k4, f4, hn4, hl4, ho4, hs4⟩ := hR
  obtain ⟨hb4, hf4, hi4⟩ := HCAR.out _ W4 K2.out f4
  clear HCU HCL HCN HCU1 HCL1 CB K1
  rcases ho4 with ⟨rfl, rfl, o1, o2⟩ | ⟨rfl, o1, o2⟩
  · obtain rfl : N4 = 0 := hn4 rfl
    have c6 := k4.isS.c6
    have CH := Lib.hid (stWHead k4 x HNX.out.2 bs HBL.out)
    have HK := Lib.hid (And.intro hl4 (And.intro o1 (And.intro o2 hs4)))
    have HC4 := Lib.hid (And.intro hb4 (And.intro hf4 hi4))
    clear k4 f4 hn4 hl4 o1 o2 hs4 hb4 hf4 hi4 HCAR K2 HE1
    go_wp2_with (go_at_call 48; refine CH.out.mono ?_)
    rintro e W5 hR
    unfold HeadW at hR
    obtain ⟨e5, N5, p5, S5, M5, rfl, k5, f5, hn5, hl5, ho5, hs5⟩ := hR
    rcases ho5 with ⟨rfl, rfl, o3, o4⟩ | ⟨rfl, o3, o4, o5⟩
    · obtain rfl : N5 = 0 := hn5 rfl
      have hb5 := HC4.out.1.kept f5 ⟨HC4.out.1.lt, HNB.out⟩
      have hf5 := HC4.out.2.1.trans' f5
      have hi5 := HC4.out.2.2.fr f5
      have d0 := hb5.c0; have d1 := hb5.c1; have d2 := hb5.c2; have d3 := hb5.c3; have d4 := hb5.c4
      simp only at d0 d1 d2 d3 d4
      rw [← HBB.out] at d0 d1 d2 d3 d4
      have i1 := k5.isS.c1; have i2 := k5.isS.c2; have i3 := k5.isS.c3; have i4 := k5.isS.c4; have i5 := k5.isS.c5; have i6 := k5.isS.c6
      simp only at i1 i2 i3 i4 i5 i6
      have z1 := k5.isS.fs 1; have z2 := k5.isS.fs 2; have z3 := k5.isS.fs 3; have z4 := k5.isS.fs 4; have z5 := k5.isS.fs 5; have z6 := k5.isS.fs 6
      have hput := k5.isS.put ⟨g', root, s, f, c⟩ x
      obtain ⟨W6, hW6⟩ : ∃ W6, (((((W5.setCell ⟨A.st, 1, none⟩ (.int .u64 g')).setCell ⟨A.st, 2, none⟩ (.int .i64 root)).setCell ⟨A.st, 3, none⟩ (.int .i64 s)).setCell ⟨A.st, 4, none⟩ (.int .i64 f)).setCell ⟨A.st, 5, none⟩ (.int .i64 c)).setCell ⟨A.st, 6, none⟩ (.int .i64 x) = W6 := ⟨_, rfl⟩
      have hk6 : KeptIn (fun k => k < W5.heap.size ∧ k ≠ A.st ∧ k ≠ A.pg) W5 W6 := by
        rw [← hW6]
        exact ((((((KeptIn.refl _ W5).setCell (p := ⟨A.st, 1, none⟩) (by simp) _).setCell (p := ⟨A.st, 2, none⟩) (by simp) _).setCell (p := ⟨A.st, 3, none⟩) (by simp) _).setCell (p := ⟨A.st, 4, none⟩) (by simp) _).setCell (p := ⟨A.st, 5, none⟩) (by simp) _).setCell (p := ⟨A.st, 6, none⟩) (by simp) _
      simp only [hW6] at hput
      obtain ⟨k6, f6⟩ := k5.sto hput hk6 rfl HNX.out.1 HNX.out.2 HST.out.1 HST.out.2
      have hi6 := hi5.fr f6
      have hf6 := hf5.trans' f6
      have CK := stKeep k6 a' cap l hi6
      rw [HLN.out] at CK
      have HCK := Lib.hid CK
      have HW6 := Lib.hid hW6
      have HF6 := Lib.hid hf6
      have HK5 := Lib.hid (And.intro hl5 (And.intro o3 (And.intro o4 hs5)))
      clear k5 f5 hn5 hl5 o3 o4 hs5 hb5 hf5 hi5 hput hk6 k6 f6 hi6 hf6 CK hW6 HC4 CH HE2 c6
      go_wp2_with fail
      rw [HW6.out]
      refine HCK.out.mono ?_
      rintro e W7 ⟨rfl, k7, f7⟩
      have CS : Calls Tryz.prog 14 #[.pointer (some ⟨A.st, 0, none⟩), .slice none 0 0] W7 _ := stSweep k7 none 0 [] (ints_none _ _ _)
      have HCS := Lib.hid CS
      have HF7 := Lib.hid (HF6.out.trans' f7)
      clear k7 f7 CS HCK HF6 HW6 d0 d1 d2 d3 d4 i1 i2 i3 i4 i5 i6 z1 z2 z3 z4 z5 z6
      go_wp2_with (go_at_call 14; refine HCS.out.mono ?_; rintro e W8 ⟨rfl, k8, f8⟩)
      go_ret
      exact HE3.out W8 S4 S5 p5 k8 (HF7.out.trans' f8) HK.out.1 HK5.out.1 HK.out.2.1 HK.out.2.2.1 HK5.out.2.1 HK5.out.2.2.1 (fun hs => (HK5.out.2.2.2 (HK.out.2.2.2 hs).2).2)
    · have hns : ¬ p.sure := fun hs => by have := (hs5 (HK.out.2.2.2 hs).2).1; cases this
      have HFIN := Lib.hid (HE2.out W5 S4 S5 M5 p5 N5 k5 (HC4.out.2.1.trans' f5) (hl5.trans HK.out.1) o3 HK.out.2.1 HK.out.2.2.1 o4 o5 hns)
      clear k5 f5 hn5 hl5 o3 o4 o5 hs5 HC4 HE2 HE3 HK CH c6
      go_wp2_with fail
      go_ret
      exact HFIN.out
  · have hns : ¬ p.sure := fun hs => by have := (hs4 hs).1; cases this
    have HFIN := Lib.hid (HE1.out W4 S4 M4 p4 N4 k4 hf4 hl4 ⟨o1, o2⟩ hns)
    clear k4 f4 hn4 hl4 o1 o2 hs4 hb4 hf4 hi4 HCAR K2 HE1 HE2 HE3
    go_wp2_with fail
    go_ret
    exact HFIN.out

theorem stCommitNil (root : Int) (v : Value) (w : World) : Calls Tryz.prog 17 #[.pointer none, .int .i64 root, v] w fun e w' => e = .returned (.int .i64 2) ∧ w = w' := by
  go_enter Tryz.func17, Tryz.ntmps17
  go_wp2
  go_ret
  exact ⟨rfl, rfl⟩

end Go.Proofs.YtkgjmejgkffbdaaGreatDoor
