import Derived.Test.YtbklidfcmcdodaaGreatDoorAw7K
import Derived.Test.YtbklidfcmcdodaaGreatDoorRw7K
import Derived.Test.YtbklidfcmcdodaaGreatDoorSsK
import Derived.Test.YtbklidfcmcdodaaGreatDoorBools
import Derived.Test.YtbklidfcmcdodaaGreatDoorNums
/- tiercelaw07.StoreShadows: it answers true whatever the input; what was there stands. -/
set_option linter.unusedVariables false
namespace Go.Proofs.YtbklidfcmcdodaaGreatDoor
open Go.RowKit

def hB0 (c : Int) : Hd := ⟨1, 0, 9, 3, c⟩

/-- Between two additions. -/
def ShJ (V1 : World) (A : Ad) (p : Pw) (S0 : List (List UInt8)) (i : Nat) (v : Value) (W : World) : Prop :=
  (∃ P, Sv A 0 p S0 (fun _ => none) (hB0 1) 0 P W ∧ ShP 0 i P ∧ Inv (hB0 1) 0 P S0 (fun q => q - 1)) ∧ W.ownsRow V1.heap.size 3 1 v (upTo i).length ((upTo i).map encZ) ∧ KeptIn (· < V1.heap.size) V1 W
theorem shJ_out {V1 : World} {A : Ad} {p : Pw} {S0 : List (List UInt8)} {i : Nat} {v : Value} {W : World} (h : ShJ V1 A p S0 i v W) :
  (∃ P, Sv A 0 p S0 (fun _ => none) (hB0 1) 0 P W ∧ ShP 0 i P ∧ Inv (hB0 1) 0 P S0 (fun q => q - 1)) ∧ W.ownsRow V1.heap.size 3 1 v (upTo i).length ((upTo i).map encZ) ∧ KeptIn (· < V1.heap.size) V1 W := h

/-- Between two additions behind the Commit. -/
def ShK (V1 : World) (A : Ad) (p : Pw) (S1 : List (List UInt8)) (h1 : Hd) (n : Nat) (v : Value) (W : World) : Prop :=
  (∃ f P, n + f ≤ 19 ∧ Sv A 0 p S1 (fun _ => none) h1 1 P W ∧ ShP n f P) ∧ W.ownsRow V1.heap.size 3 1 v n ((upTo n).map encZ) ∧ KeptIn (· < V1.heap.size) V1 W
theorem shK_out {V1 : World} {A : Ad} {p : Pw} {S1 : List (List UInt8)} {h1 : Hd} {n : Nat} {v : Value} {W : World} (h : ShK V1 A p S1 h1 n v W) :
  (∃ f P, n + f ≤ 19 ∧ Sv A 0 p S1 (fun _ => none) h1 1 P W ∧ ShP n f P) ∧ W.ownsRow V1.heap.size 3 1 v n ((upTo n).map encZ) ∧ KeptIn (· < V1.heap.size) V1 W := h
theorem shK_old {V1 : World} {A : Ad} {p : Pw} {S1 : List (List UInt8)} {h1 : Hd} {n : Nat} {v : Value} {W W' : World} (h : ShK V1 A p S1 h1 n v W) (hk : KeptIn (· < W.heap.size) W W') : ShK V1 A p S1 h1 n v W' := by
  obtain ⟨⟨f, P, h0, h2, h3⟩, h4, h5⟩ := h
  exact ⟨⟨f, P, h0, h2.old hk, h3⟩, rowT_old h4 hk, h5.step hk⟩
theorem shK_cell {V1 : World} {A : Ad} {p : Pw} {S1 : List (List UInt8)} {h1 : Hd} {n cap b0 off0 : Nat} {W : World} (h : ShK V1 A p S1 h1 n (.slice (some ⟨b0, off0, none⟩) n cap) W) (k : Nat) (hk : k < n) : W.cell? ⟨b0, off0 + k, none⟩ = some (.int .i64 ((k + 1 : Nat) : Int)) := by
  rcases h.2.1.2 with ⟨h0, _⟩ | ⟨g, cap', cur, e, hB, hg, hc, hm, hs, ht⟩
  · cases h0
  · simp only [Value.slice.injEq, Option.some.injEq, Addr.mk.injEq, and_true, true_and] at e
    obtain ⟨⟨rfl, rfl⟩, rfl⟩ := e
    rw [cell_of_row _ _ _ _ _ _ hg, Nat.zero_add]
    have h1 : (cur.toList.take (n * 1))[k]? = some (.int .i64 ((k + 1 : Nat) : Int)) := by
      rw [ht, List.getElem?_map, upTo, List.getElem?_map, List.getElem?_range hk]
      rfl
    rw [List.getElem?_take_of_lt (by omega)] at h1
    simpa using h1

/-- Where nothing is loose. -/
def LooS (w : World) (e : Ending) (w' : World) : Prop := ∃ c cp, e = .returned (.slice c 0 cp) ∧ KeptIn (· < w.heap.size) w w'


set_option maxHeartbeats 4000000 in
set_option maxRecDepth 100000 in
theorem storeShadowsW (x : Int) (a : Option Addr) (len cap : Nat) (w : World) (wx : (Lit.int .i64 x).wf = true) (hbs : IsBools w a len) (hT : Tab w) :
    Calls Tryz.prog 6 #[.int .i64 x, .slice a len cap] w fun e w' => e = .returned (.bool true) ∧ KeptIn (· < w.heap.size) w w' := by
  have CA := Lib.hid (awake7 w hT)
  have HT := Lib.hid hT
  have hll := hbs.len_le
  have hm : (len : Int) ≤ 9223372036854775807 := by unfold maxLen at hll; omega
  have HBS := Lib.hid hbs
  have HCS := Lib.hid l7slots
  clear hbs hT hll
  by_cases h40 : 40 < len
  · have h40' : (40 : Int) < (len : Int) := by omega
    clear h40
    go_enter Tryz.func6, Tryz.ntmps6
    go_wp2_with (go_at_call 7; refine CA.out.mono ?_; rintro e V1 ⟨rfl, kv⟩)
    go_ret
    exact ⟨rfl, kv⟩
  · have h40' : ¬ (40 : Int) < (len : Int) := by omega
    obtain ⟨n0, hn0, hmw⟩ := modWalk x 10 (by decide) (by decide)
    clear wx
    go_enter Tryz.func6, Tryz.ntmps6
    go_wp2_with (go_at_call 7; refine CA.out.mono ?_; rintro e V1 ⟨rfl, kv⟩)
    have HT1 := Lib.hid (HT.out.kept kv HT.out.lt)
    have HKV := Lib.hid kv
    clear CA kv
    go_wp2_with (first
      | (go_at_call 8; refine (begNew V1).mono ?_; rintro e W1 ⟨rfl, hP1, k1⟩; have H1 := Lib.hid (And.intro hP1 k1); clear hP1 k1)
      | (go_at_call 10; refine (begDev V1 W1 V1.heap.size pw0 320 320 H1.out.2 H1.out.1 (by decide)).mono ?_))
    rintro e W2 hR
    unfold DevS at hR
    obtain ⟨d, s, b, rfl, q1, q2, q3, q4, q5, q6, q7⟩ := hR
    have H2 := Lib.hid (And.intro q1 (And.intro q2 (And.intro q3 (And.intro q4 (And.intro q5 q6)))))
    clear q1 q2 q3 q4 q5 q6 q7 H1
    go_wp2_with fail
    refine (HCS.out W2).mono ?_
    rintro e W3 ⟨rfl, k3⟩
    have H3 := Lib.hid (And.intro (H2.out.1.kept k3 H2.out.1.ltd H2.out.1.lts H2.out.1.ltb) (And.intro (H2.out.2.1.kept k3 H2.out.2.1.lt) (H2.out.2.2.1.step k3)))
    clear k3
    go_wp2_with fail
    refine (begFor V1 W3 d V1.heap.size s b 320 20 pw0 9 3 1 H3.out.2.2 HT1.out H3.out.1 H3.out.2.1 pw0_sure H2.out.2.2.2.1 (Nat.le_refl _) H2.out.2.2.2.2.1 H2.out.2.2.2.2.2 (by decide) (by decide) (by decide)).mono ?_
    rintro e W4 hR
    unfold ForS at hR
    obtain ⟨st, pg, p, rfl, hbg⟩ := hR
    unfold Begun at hbg
    obtain ⟨A, hA⟩ : ∃ A : Ad, A = ⟨d, V1.heap.size, s, b, st, pg⟩ := ⟨_, rfl⟩
    rw [← hA] at hbg
    have hd : d = A.d := by rw [hA]
    have hst : st = A.st := by rw [hA]
    have hmm : V1.heap.size = A.m := by rw [hA]
    subst hst
    subst hd
    have H4 := Lib.hid hbg
    have HMM := Lib.hid hmm
    clear hbg H3 H2 hA hmm
    obtain ⟨n, hn⟩ : ∃ n, n0 + 1 = n := ⟨_, rfl⟩
    have hmw2 : wrap64 (1 + wrap64 ((IntKind.u64.wrap x).tmod 10)) = (n : Int) := by
      rw [show ((10 : Nat) : Int) = 10 from rfl] at hmw
      rw [hmw]
      unfold wrap64
      omega
    rw [show ((10 : Nat) : Int) = 10 from rfl] at hmw
    have hn1 : (1 : Int) + (n0 : Int) = (n : Int) := by omega
    have HN : Hid (1 ≤ n ∧ n ≤ 10) := Lib.hid (by omega)
    have hn10 : (n : Int) ≤ 10 := by omega
    clear hn hn0
    go_wp2_with fail
    clear hmw hmw2 hn1
    generalize (IntKind.u64.wrap x).tmod 10 = y1
    generalize IntKind.u64.wrap x = y2
    obtain ⟨W5, hW5⟩ : ∃ W5, W4.alloc (.cells #[] 3) = W5 := ⟨_, rfl⟩
    have k5 : KeptIn (· < W4.heap.size) W4 W5 := by rw [← hW5]; exact (KeptIn.refl _ W4).alloc (fun _ h => h) _
    have hg5 : W5.heap[W4.heap.size]? = some (.cells #[] 3 (0, 0)) := by rw [← hW5]; exact heap_alloc_new W4 _
    have hrow5 : W5.ownsRow V1.heap.size 3 1 (.slice (some ⟨W4.heap.size, 0, none⟩) 0 0) (upTo 0).length ((upTo 0).map encZ) :=
      ⟨rfl, .inr ⟨W4.heap.size, 0, #[], rfl, H4.out.2.2.2.size, hg5, Nat.le_refl _, Nat.zero_le _, rfl, rfl⟩⟩
    obtain ⟨S0, hS0⟩ : ∃ S0, formS (List.replicate 320 zeroS) (fun _ => none) (hB0 1) = S0 := ⟨_, rfl⟩
    have HS0 : Hid (S0.length = 320) := Lib.hid (by rw [← hS0, formS_length, List.length_replicate])
    have HJ0 : Hid (ShJ V1 A p S0 0 (.slice (some ⟨W4.heap.size, 0, none⟩) 0 0) W5) := Lib.hid (by
      rw [← hS0]
      exact ⟨⟨noP 20, H4.out.1.old k5, noP_sh, inv_format 320 20 (hB0 1) (by decide) (by decide) _⟩, hrow5, H4.out.2.2.2.step k5⟩)
    clear hS0
    obtain ⟨v5, hv5⟩ : ∃ v, Value.slice (some ⟨W4.heap.size, 0, none⟩) 0 0 = v := ⟨_, rfl⟩
    rw [hW5, hv5]
    rw [hv5] at HJ0
    clear hW5 k5 hg5 hrow5 hv5
    obtain ⟨ii, hii, hz0, hz1, hz2⟩ := info_parts (show (Tryz.prog.info? 3).map (fun i => (i.zero, i.size, i.bytes)) = some (some (.int .i64 0), 1, 8) by kernel_rfl)
    have HSU := Lib.hid H4.out.2.1
    have HLO := Lib.hid H4.out.2.2.1
    clear H4
    go_loopw [9, 10, 11, 12] (fun v c _ _ wr => ∃ (i : Nat) (W : World) (v0 : Value), W = wr ∧ v0 = v ∧ i ≤ n ∧ c = .int .i64 i ∧ Hid (ShJ V1 A p S0 i v0 W)) (fun _ c _ _ _ => n - (RowKit.intOf c).toNat)
    case atStart => exact ⟨0, _, _, rfl, rfl, Nat.zero_le _, rfl, HJ0⟩
    case round =>
      obtain ⟨i, W, v0, rfl, rfl, hi, rfl, HJ⟩ := hrel
      clear HJ0
      have i0 : (0 : Int) ≤ (i : Int) := by omega
      by_cases hlt : i < n
      · have i1 : (i : Int) < (n : Int) := by omega
        obtain ⟨q, hq⟩ : ∃ q, i + 1 = q := ⟨_, rfl⟩
        have hi10 : i < 10 := by have := HN.out; omega
        have CK := Lib.hid (l7node (i : Int) i (ku_of i (by omega)) W)
        have HQ := Lib.hid hq
        go_wp2_with (go_at_call 14; refine CK.out.mono ?_)
        rintro e W6 hR
        unfold NodeS at hR
        obtain ⟨g, rfl, hps, hg, k6⟩ := hR
        obtain ⟨⟨P, hv, hsh, hI⟩, hrow, hk⟩ := shJ_out HJ.out
        have hv6 := hv.old k6
        have hrow6 := rowT_old hrow k6
        have hk6 := hk.step k6
        have CA : Calls Tryz.prog 13 #[.pointer (some ⟨A.st, 0, none⟩), .agg #[.int .i64 0, .slice (some ⟨g, 0, none⟩) 1 1]] W6 _ := stAddOk hv6 (HT1.out.kept hk6 HT1.out.lt) 0 (some ⟨g, 0, none⟩) 1 (psK i) hps (psK_good i) (0 + i + 1) (hsh.free (by omega))
        rw [show 0 + i + 1 = q by omega] at CA
        have HCA := Lib.hid CA
        have hadd := hsh.add (by omega) (bytesK i)
        have hIa := hI.add (0 + i + 1) i (by rw [hsh.len]; omega) (by rw [hsh.st _ (by omega), if_neg (by omega), if_neg (by omega)])
        rw [show 0 + i + 1 = q by omega] at hadd hIa
        rw [hq] at hadd
        have hfun : (fun r => if r = q then i else (fun q => q - 1) r) = fun q : Nat => q - 1 := by
          funext r
          by_cases e : r = q
          · rw [if_pos e]; show i = r - 1; omega
          · rw [if_neg e]
        rw [hfun] at hIa
        have H6 := Lib.hid (And.intro hv6 (And.intro hrow6 (And.intro hk6 (And.intro hadd hIa))))
        clear hps hg k6 hv hsh hI hrow hk hv6 hrow6 hk6 CA hadd hIa hfun CK HJ
        go_wp2_with (go_at_call 13; refine HCA.out.mono ?_)
        rintro e W7 ⟨rfl, hv7, f7⟩
        have hrow7 := rowT_fr H6.out.1 H6.out.2.1 f7 (by decide) (by decide) (by decide) (by decide) (by decide)
        have hk7 := HLO.out.fr H6.out.2.2.1 f7
        have H7 := Lib.hid (And.intro hv7 (And.intro hk7 H6.out.2.2.2))
        rw [upTo_length] at hrow7
        have HROW := Lib.hid hrow7
        have hsz7 := hk7.size
        clear hv7 f7 hk7 H6 HCA
        go_wp2_with (at_builtin; refine wpList_append_own _ rfl _ _ 40 rfl V1.heap.size 3 ii (.int .i64 0) 1 8 Tryz.underlying40 hii hz0 hz1 hz2 rfl (by decide) _ _ _ rfl (HROW.out.alloc _) ⟨W7.heap.size, 0, none⟩ 1 1 [.int .i64 (q : Int)] rfl rfl (cell_one_new _ _ _) (by simp [Value.oneCell']) (by unfold maxLen; omega) (by omega) (by rw [World.size_alloc]; omega) ?_)
        intro v' w8 hown' hgrow _
        have HJ2 : Hid (ShJ V1 A p S0 (i + 1) v' w8) := Lib.hid (by
          rw [HQ.out]
          refine ⟨⟨_, sv_grown H7.out.1 HROW.out _ hgrow (by decide) (by decide) (by decide) (by decide) (by decide), H7.out.2.2.1, H7.out.2.2.2⟩, ?_, kept_grown (B := 0) HROW.out H7.out.2.1 _ hgrow⟩
          rw [upTo_length, ← HQ.out, upTo_succ, List.map_append, HQ.out]
          exact hown')
        clear hown' hgrow H7 HROW hsz7
        go_wp2_with fail
        go_roundw
        case rel => exact ⟨i + 1, _, _, rfl, rfl, by omega, by go_num, HJ2⟩
        case measure => simp [RowKit.intOf]; omega
      · obtain rfl : i = n := by omega
        obtain ⟨⟨P, hv, hsh, hI⟩, hrow, hk⟩ := shJ_out HJ.out
        obtain ⟨c, cap1, rfl, hints⟩ := ints_row hv hrow (upTo_wf i (by have := HN.out; omega))
        have CC := stCommitOk hv (HT1.out.kept hk HT1.out.lt) 1 c cap1 (upTo i) hints (by rw [upTo_length]; have := HN.out; omega) (hsh.may HN.out.1 (by have := HN.out; omega) (hB0 1) (by decide))
        obtain ⟨b0, off0, rfl, _, _, hcl⟩ := hints.cells (by rw [upTo_length]; exact HN.out.1)
        rw [upTo_length] at CC hrow hcl ⊢
        have e1 : W.cell? ⟨b0, off0, none⟩ = some (.int .i64 1) := by
          have := hcl 0 HN.out.1
          rw [upTo_at i 0 HN.out.1] at this
          exact this
        have hcm : ∀ W1, CommS A W p S0 (hB0 1) 0 P 1 (upTo i) (.returned (.int .i64 0)) W1 → ∃ p1 S1 h1, Sv A 0 p1 S1 (fun _ => none) h1 1 (sweepP (keepP P (upTo i)) []) W1 ∧ Fr A W W1 ∧ p1.sure ∧ (∀ q, 1 ≤ q → q ≤ i → pageB S1 q = bytesK (q - 1)) ∧ ShP i 0 (sweepP (keepP P (upTo i)) []) := fun W1 h => by
          obtain ⟨_, p1, S1, q1, q2, q3, q4, q5, q6, q7⟩ := commS_sure h HSU.out
          have hsh2 := hsh.commit (by have := HN.out; omega)
          have hmay := hsh.may HN.out.1 (by have := HN.out; omega) (hB0 1) (by decide)
          unfold mayC at hmay
          simp only [Bool.and_eq_true, decide_eq_true_eq] at hmay
          have hI2 := hI.commit (root := 1) (by rw [hsh.len, HS0.out]; decide) (by rw [hsh.len]; decide) hv.sts (Nat.zero_le _) (by decide) hmay.1.2 q5 q6 q7
          exact ⟨p1, S1, _, q1, q2, q3, fun q r1 r2 => hI2.kept q r1 (by rw [hsh2.len]; have := HN.out; omega) (by rw [hsh2.st q (by have := HN.out; omega), if_pos ⟨r1, r2⟩]), hsh2⟩
        have hce : ∀ e W1, CommS A W p S0 (hB0 1) 0 P 1 (upTo i) e W1 → e = .returned (.int .i64 0) := fun e W1 h => (commS_sure h HSU.out).1
        have HCM := Lib.hid hcm
        have HCE := Lib.hid hce
        have HCC := Lib.hid CC
        have HROW := Lib.hid (And.intro hrow (And.intro hk hv))
        have i00 : (0 : Int) < (i : Int) := by have := HN.out; omega
        clear CC hcl hints hI hsh hv hrow hk hcm hce HJ
        go_wp2_with (go_at_call 19; refine HCC.out.mono ?_)
        rintro e W1 hR
        obtain rfl := HCE.out e W1 hR
        obtain ⟨p1, S1, h1, hv1, f1, hs1, hpg, hsh1⟩ := HCM.out W1 hR
        obtain ⟨P1, hP1⟩ : ∃ P1, sweepP (keepP P (upTo i)) [] = P1 := ⟨_, rfl⟩
        rw [hP1] at hv1 hsh1
        have hrow1 := rowT_fr HROW.out.2.2 HROW.out.1 f1 (by decide) (by decide) (by decide) (by decide) (by decide)
        have hk1 := HLO.out.fr HROW.out.2.1 f1
        have H1 := Lib.hid (And.intro hv1 (And.intro hsh1 (And.intro hrow1 hk1)))
        have HPG := Lib.hid hpg
        have HS1 := Lib.hid hs1
        have CI := Lib.hid (dImage A.d A.m A.s A.b 0 S1 (fun _ => none) W1 hv1.isD)
        obtain ⟨im, him⟩ : ∃ im, S1.flatten = im := ⟨_, rfl⟩
        rw [him] at CI
        have HIM := Lib.hid him
        clear hR hv1 f1 hs1 hpg hsh1 hrow1 hk1 hP1 HROW HCC HCM HCE him e1
        go_wp2_with (go_at_call 35; refine CI.out.mono ?_)
        rintro e W2 ⟨rfl, k2⟩
        have HK0 : Hid (ShK V1 A p1 S1 h1 i (.slice (some ⟨b0, off0, none⟩) i cap1) W2) := Lib.hid ⟨⟨0, P1, by have := HN.out; omega, H1.out.1.old k2, H1.out.2.1⟩, rowT_old H1.out.2.2.1 k2, H1.out.2.2.2.step k2⟩
        clear k2 H1 CI
        go_wp2_with fail
        go_loopw [14, 15, 16, 17] (fun c _ _ _ wr => ∃ (j : Nat) (W : World), W = wr ∧ j ≤ len ∧ c = .int .i64 j ∧ Hid (ShK V1 A p1 S1 h1 i (.slice (some ⟨b0, off0, none⟩) i cap1) W)) (fun c _ _ _ _ => len - (RowKit.intOf c).toNat)
        case atStart => exact ⟨0, _, rfl, Nat.zero_le _, rfl, HK0⟩
        case round =>
          obtain ⟨j, W, rfl, hj, rfl, HJ⟩ := hrel
          clear HK0
          have j0 : (0 : Int) ≤ (j : Int) := by omega
          by_cases hlt : j < len
          · have j1 : (j : Int) < (len : Int) := by omega
            have hw1 : wrap64 (1000 + (j : Int)) = 1000 + (j : Int) := by unfold wrap64; omega
            have CK := Lib.hid (l7node (1000 + (j : Int)) (1000 + j) (by rw [show (1000 + (j : Int)) = ((1000 + j : Nat) : Int) by omega]; exact ku_of _ (by omega)) W)
            go_wp2_with (go_at_call 14; refine CK.out.mono ?_)
            rintro e W6 hR
            unfold NodeS at hR
            obtain ⟨g, rfl, hps, hg, k6⟩ := hR
            obtain ⟨⟨fn, P, hfn, hv, hsh⟩, hrow, hk⟩ := shK_out HJ.out
            have hv6 := hv.old k6
            have hrow6 := rowT_old hrow k6
            have hk6 := hk.step k6
            clear CK HJ
            by_cases hfull : i + fn < 19
            · obtain ⟨q, hq⟩ : ∃ q, i + fn + 1 = q := ⟨_, rfl⟩
              have CA : Calls Tryz.prog 13 #[.pointer (some ⟨A.st, 0, none⟩), .agg #[.int .i64 0, .slice (some ⟨g, 0, none⟩) 1 1]] W6 _ := stAddOk hv6 (HT1.out.kept hk6 HT1.out.lt) 0 (some ⟨g, 0, none⟩) 1 (psK (1000 + j)) hps (psK_good _) (i + fn + 1) (hsh.free hfull)
              have hadd := hsh.add hfull (bytesN 0 (psK (1000 + j)))
              rw [hq] at CA hadd
              have HCA := Lib.hid CA
              have H6 := Lib.hid (And.intro hv6 (And.intro hrow6 (And.intro hk6 hadd)))
              have hqi : i < q := by omega
              clear hps hg k6 hv hsh hrow hk hv6 hrow6 hk6 CA hadd hq
              go_wp2_with (go_at_call 13; refine HCA.out.mono ?_)
              rintro e W7 ⟨rfl, hv7, f7⟩
              have HK7 : Hid (ShK V1 A p1 S1 h1 i (.slice (some ⟨b0, off0, none⟩) i cap1) W7) := Lib.hid ⟨⟨fn + 1, _, by omega, hv7, H6.out.2.2.2⟩, rowT_fr H6.out.1 H6.out.2.1 f7 (by decide) (by decide) (by decide) (by decide) (by decide), HLO.out.fr H6.out.2.2.1 f7⟩
              clear hv7 f7 H6 HCA hfn
              go_wp2_with fail
              go_loopw [17] (fun c wr => ∃ (k : Nat) (W : World), W = wr ∧ wr = W7 ∧ k ≤ i ∧ c = .int .i64 k) (fun c _ => i - (RowKit.intOf c).toNat)
              case atStart => exact ⟨0, _, rfl, by trivial, Nat.zero_le _, rfl⟩
              case round =>
                obtain ⟨k, W, rfl, rfl, hk, rfl⟩ := hrel
                have k0 : (0 : Int) ≤ (k : Int) := by omega
                by_cases hki : k < i
                · have k1 : (k : Int) < (i : Int) := by omega
                  obtain ⟨kk, hkk⟩ : ∃ kk, k + 1 = kk := ⟨_, rfl⟩
                  have ec := shK_cell HK7.out k hki
                  rw [hkk] at ec
                  have hne : ¬ (kk : Int) = (q : Int) := by omega
                  clear hkk
                  go_wp2_with fail
                  go_roundw
                  case rel => exact ⟨k + 1, _, rfl, by trivial, by omega, by go_num⟩
                  case measure => simp [RowKit.intOf]; omega
                · obtain rfl : i = k := by omega
                  have k1 : (i : Int) ≤ (i : Int) := Int.le_refl _
                  obtain ⟨bb, oo, hae, hbb, _, hbc⟩ := HBS.out.resolve_left (by omega)
                  obtain ⟨xb, hxb⟩ := hbc j hlt
                  have hkw := HKV.out.step (shK_out HK7.out).2.2
                  have exb := (World.cell?_of_block (a := ⟨bb, oo + j, none⟩) (hkw.block bb hbb)).trans hxb
                  clear hbc hxb hkw
                  subst hae
                  cases xb with
                  | false =>
                    go_wp2_with fail
                    go_roundw
                    case rel => exact ⟨j + 1, _, rfl, by omega, by go_num, HK7⟩
                    case measure => simp [RowKit.intOf]; omega
                  | true =>
                    obtain ⟨⟨f3, P3, hf3, hv3, hsh3⟩, hrow3, hk3⟩ := shK_out HK7.out
                    have CS : Calls Tryz.prog 16 #[.pointer (some ⟨A.st, 0, none⟩), .slice none 0 0] _ _ := stSweep hv3 none 0 [] (ints_none _ _ _)
                    have HCS3 := Lib.hid CS
                    have H3 := Lib.hid (And.intro hv3 (And.intro hsh3 (And.intro hrow3 hk3)))
                    obtain ⟨u, hu⟩ : ∃ u, 19 - i = u := ⟨_, rfl⟩
                    have hwu : wrap64 (19 - (i : Int)) = (u : Int) := by unfold wrap64; omega
                    have hwu2 : 19 - (i : Int) = (u : Int) := by omega
                    have hcs : ∀ V, Sv A 0 p1 S1 (fun _ => none) h1 1 (sweepP P3 []) V → Calls Tryz.prog 29 #[.pointer (some ⟨A.st, 0, none⟩)] V (fun e w' => e = .returned (.int .i64 0) ∧ V = w') ∧ Calls Tryz.prog 28 #[.pointer (some ⟨A.st, 0, none⟩)] V (fun e w' => e = .returned (.int .i64 u) ∧ V = w') := fun V hV => by
                      have hsw := hsh3.sweep
                      have c1 := stFresh A _ _ _ V hV.isS (by rw [hsw.len]; decide) (by rw [hsw.len]; decide)
                      have c2 := stFree A _ _ _ V hV.isS (by rw [hsw.len]; decide) (by rw [hsw.len]; decide)
                      rw [hsw.cnt1 (by omega)] at c1
                      rw [hsw.cnt0 (by omega), show 19 - i - 0 = u by omega] at c2
                      exact ⟨c1, c2⟩
                    have HCN3 := Lib.hid hcs
                    clear hv3 hsh3 hrow3 hk3 CS hcs hu HK7
                    go_wp2_with (first
                      | (go_at_call 16; refine HCS3.out.mono ?_; rintro e W9 ⟨rfl, hv9, f9⟩; have HC1 := Lib.hid (HCN3.out W9 hv9).1; have HC2 := Lib.hid (HCN3.out W9 hv9).2; have HK9 : Hid (ShK V1 A p1 S1 h1 i (.slice (some ⟨b0, off0, none⟩) i cap1) W9) := Lib.hid ⟨⟨0, _, by omega, hv9, H3.out.2.1.sweep⟩, rowT_fr H3.out.1 H3.out.2.2.1 f9 (by decide) (by decide) (by decide) (by decide) (by decide), HLO.out.fr H3.out.2.2.2 f9⟩; clear hv9 f9)
                      | (go_at_call 29; refine HC1.out.mono ?_; rintro e _ ⟨rfl, rfl⟩)
                      | (go_at_call 28; refine HC2.out.mono ?_; rintro e _ ⟨rfl, rfl⟩))
                    go_roundw
                    case rel => exact ⟨j + 1, _, rfl, by omega, by go_num, HK9⟩
                    case measure => simp [RowKit.intOf]; omega
            · have CA : Calls Tryz.prog 13 #[.pointer (some ⟨A.st, 0, none⟩), .agg #[.int .i64 0, .slice (some ⟨g, 0, none⟩) 1 1]] W6 _ := stAddFull hv6 (HT1.out.kept hk6 HT1.out.lt) 0 (some ⟨g, 0, none⟩) 1 (psK (1000 + j)) hps (psK_good _) (hsh.full (by omega))
              have hcnt : cntS P 0 = 0 := by rw [hsh.cnt0 (by omega)]; omega
              have CF : ∀ V, KeptIn (· < W6.heap.size) W6 V → Calls Tryz.prog 28 #[.pointer (some ⟨A.st, 0, none⟩)] V fun e w' => e = .returned (.int .i64 0) ∧ V = w' := fun V hV => by
                have := stFree A _ _ P V (hv6.old hV).isS (by rw [hsh.len]; decide) (by rw [hsh.len]; decide)
                rw [hcnt] at this
                exact this
              have HCA := Lib.hid CA
              have HCF := Lib.hid CF
              have HK6 : Hid (∀ V, KeptIn (· < W6.heap.size) W6 V → ShK V1 A p1 S1 h1 i (.slice (some ⟨b0, off0, none⟩) i cap1) V) := Lib.hid fun V hV => ⟨⟨fn, P, hfn, hv6.old hV, hsh⟩, rowT_old hrow6 hV, hk6.step hV⟩
              clear hps hg k6 hv hsh hrow hk hv6 hrow6 hk6 CA CF hcnt hfn hfull
              go_wp2_with (first
                | (go_at_call 13; refine HCA.out.mono ?_; rintro e W7 ⟨rfl, k7⟩; have HK7 := Lib.hid (HK6.out W7 k7))
                | (go_at_call 28; refine (HCF.out W7 k7).mono ?_; rintro e _ ⟨rfl, rfl⟩))
              clear HCA HCF HK6 k7
              go_loopw [17] (fun c wr => ∃ (W : World), W = wr ∧ wr = W7 ∧ c = .int .i64 0) (fun c _ => 0)
              case atStart => exact ⟨_, rfl, by trivial, rfl⟩
              case round =>
                obtain ⟨W, rfl, rfl, rfl⟩ := hrel
                have k1 : (0 : Int) < (i : Int) := by omega
                obtain ⟨bb, oo, hae, hbb, _, hbc⟩ := HBS.out.resolve_left (by omega)
                obtain ⟨xb, hxb⟩ := hbc j hlt
                have hkw := HKV.out.step (shK_out HK7.out).2.2
                have exb := (World.cell?_of_block (a := ⟨bb, oo + j, none⟩) (hkw.block bb hbb)).trans hxb
                clear hbc hxb hkw
                subst hae
                cases xb with
                | false =>
                  go_wp2_with fail
                  go_roundw
                  case rel => exact ⟨j + 1, _, rfl, by omega, by go_num, HK7⟩
                  case measure => simp [RowKit.intOf]; omega
                | true =>
                  obtain ⟨⟨f3, P3, hf3, hv3, hsh3⟩, hrow3, hk3⟩ := shK_out HK7.out
                  have CS : Calls Tryz.prog 16 #[.pointer (some ⟨A.st, 0, none⟩), .slice none 0 0] _ _ := stSweep hv3 none 0 [] (ints_none _ _ _)
                  have HCS3 := Lib.hid CS
                  have H3 := Lib.hid (And.intro hv3 (And.intro hsh3 (And.intro hrow3 hk3)))
                  obtain ⟨u, hu⟩ : ∃ u, 19 - i = u := ⟨_, rfl⟩
                  have hwu : wrap64 (19 - (i : Int)) = (u : Int) := by unfold wrap64; omega
                  have hwu2 : 19 - (i : Int) = (u : Int) := by omega
                  have hcs : ∀ V, Sv A 0 p1 S1 (fun _ => none) h1 1 (sweepP P3 []) V → Calls Tryz.prog 29 #[.pointer (some ⟨A.st, 0, none⟩)] V (fun e w' => e = .returned (.int .i64 0) ∧ V = w') ∧ Calls Tryz.prog 28 #[.pointer (some ⟨A.st, 0, none⟩)] V (fun e w' => e = .returned (.int .i64 u) ∧ V = w') := fun V hV => by
                    have hsw := hsh3.sweep
                    have c1 := stFresh A _ _ _ V hV.isS (by rw [hsw.len]; decide) (by rw [hsw.len]; decide)
                    have c2 := stFree A _ _ _ V hV.isS (by rw [hsw.len]; decide) (by rw [hsw.len]; decide)
                    rw [hsw.cnt1 (by omega)] at c1
                    rw [hsw.cnt0 (by omega), show 19 - i - 0 = u by omega] at c2
                    exact ⟨c1, c2⟩
                  have HCN3 := Lib.hid hcs
                  clear hv3 hsh3 hrow3 hk3 CS hcs hu HK7
                  go_wp2_with (first
                    | (go_at_call 16; refine HCS3.out.mono ?_; rintro e W9 ⟨rfl, hv9, f9⟩; have HC1 := Lib.hid (HCN3.out W9 hv9).1; have HC2 := Lib.hid (HCN3.out W9 hv9).2; have HK9 : Hid (ShK V1 A p1 S1 h1 i (.slice (some ⟨b0, off0, none⟩) i cap1) W9) := Lib.hid ⟨⟨0, _, by omega, hv9, H3.out.2.1.sweep⟩, rowT_fr H3.out.1 H3.out.2.2.1 f9 (by decide) (by decide) (by decide) (by decide) (by decide), HLO.out.fr H3.out.2.2.2 f9⟩; clear hv9 f9)
                    | (go_at_call 29; refine HC1.out.mono ?_; rintro e _ ⟨rfl, rfl⟩)
                    | (go_at_call 28; refine HC2.out.mono ?_; rintro e _ ⟨rfl, rfl⟩))
                  go_roundw
                  case rel => exact ⟨j + 1, _, rfl, by omega, by go_num, HK9⟩
                  case measure => simp [RowKit.intOf]; omega
          · obtain rfl : j = len := by omega
            have HE := Lib.hid HJ.out
            clear HJ
            go_wp2_with fail
            go_loopw [18, 19, 20] (fun c _ _ wr => ∃ (k : Nat) (W : World), W = wr ∧ k ≤ i ∧ c = .int .i64 k ∧ Hid (ShK V1 A p1 S1 h1 i (.slice (some ⟨b0, off0, none⟩) i cap1) W)) (fun c _ _ _ => i - (RowKit.intOf c).toNat)
            case atStart => exact ⟨0, _, rfl, Nat.zero_le _, rfl, HE⟩
            case round =>
              obtain ⟨k, W, rfl, hk, rfl, HJ⟩ := hrel
              clear HE
              have k0 : (0 : Int) ≤ (k : Int) := by omega
              by_cases hki : k < i
              · have k1 : (k : Int) < (i : Int) := by omega
                obtain ⟨kk, hkk⟩ : ∃ kk, k + 1 = kk := ⟨_, rfl⟩
                have ec := shK_cell HJ.out k hki
                obtain ⟨⟨f3, P3, hf3, hv3, hsh3⟩, hrow3, hk3⟩ := shK_out HJ.out
                have hi10 : i ≤ 10 := by omega
                have hpk := HPG.out kk (by omega) (by omega)
                rw [show kk - 1 = k by omega] at hpk
                have CR := stReadDev kk (bytesK k) W hv3 (HT1.out.kept hk3 HT1.out.lt) HS1.out.1 (by omega) (by rw [hsh3.len]; omega) (by rw [hsh3.st kk (by omega), if_pos ⟨by omega, by omega⟩]; decide) hpk
                obtain ⟨b1, b2, b3⟩ := bytesK_read k (by omega)
                rw [b1, if_pos rfl] at CR
                rw [hkk] at ec
                have HCR := Lib.hid CR
                have HB := Lib.hid (And.intro b2 b3)
                clear CR b1 b2 b3 hkk hpk hf3 hv3 hsh3 hrow3 hk3 hi10
                go_wp2_with (go_at_call 21; refine HCR.out.mono ?_)
                rintro e W7 hR
                unfold ReadL at hR
                obtain ⟨a7, cap7, rfl, hps7, k7⟩ := hR
                rw [HB.out.2] at hps7 ⊢
                rw [HB.out.1]
                unfold leafV
                have hlen : (psK k).length = 1 := rfl
                rw [hlen]
                obtain ⟨W8, hW8⟩ : ∃ W8, W7.alloc (.cells #[.int .i64 0, .slice a7 1 cap7] 47) = W8 := ⟨_, rfl⟩
                have k8 : KeptIn (· < W7.heap.size) W7 W8 := by rw [← hW8]; exact (KeptIn.refl _ W7).alloc (fun _ h => h) _
                have hbx : BoxL W7.heap.size 0 a7 1 cap7 W8 := by rw [← hW8]; exact BoxL.new W7 0 a7 1 cap7
                have hps := hps7.old k8
                obtain ⟨bl, hbl⟩ : ∃ bl, W7.heap.size = bl := ⟨_, rfl⟩
                rw [hbl] at hbx
                have HX : Hid (∀ V, KeptIn (· < W8.heap.size) W8 V → (V.cell? ⟨bl, 0, none⟩ = some (.int .i64 0) ∧ V.cell? ⟨bl, 1, none⟩ = some (.slice a7 1 cap7)) ∧ IsPs V a7 (psK k)) := Lib.hid fun V hV =>
                  ⟨⟨(hbx.kept hV hbx.lt).c0, (hbx.kept hV hbx.lt).c1⟩, hps.old hV⟩
                have HN7 := Lib.hid fun V (hV : KeptIn (· < W8.heap.size) W8 V) => nodeQ (k : Int) k (ku_of k (by omega)) W8 V hV
                have HS7 := Lib.hid fun V a b ca cb (hV : KeptIn (· < W8.heap.size) W8 V) (ha : IsPs V a (psK k)) (hb : IsPs V b (psK k)) => sameQ k k W8 V a b ca cb hV ha hb
                have HEND := Lib.hid fun V (hV : KeptIn (· < W8.heap.size) W8 V) => shK_old (shK_old HJ.out (k7.step k8)) hV
                have HW8 := Lib.hid hW8
                have HBL := Lib.hid hbl
                clear hbx hps hps7 k7 k8 hlen hW8 hbl HCR HJ
                go_wp2_with fail
                rw [HW8.out, HBL.out]
                have hk0 : KeptIn (· < W8.heap.size) W8 W8.drew := (KeptIn.refl _ _).drew
                obtain ⟨⟨c0, c1⟩, p0⟩ := HX.out _ hk0
                go_region_held3 (fun w' => w'.cell? ⟨bl, 0, none⟩ = some (.int .i64 0) ∧ w'.cell? ⟨bl, 1, none⟩ = some (.slice a7 1 cap7))
                  (first | exact (HX.out _ hk).1 | exact ⟨c0, c1⟩)
                  (first
                    | (go_at_call 14; refine Calls.mono (HN7.out _ (by first | exact hk | exact hk0)) ?_; rintro e w' hR; unfold NodeQ at hR; obtain ⟨g, rfl, hg, hk⟩ := hR)
                    | (go_at_call 22; refine Calls.mono (HS7.out _ _ _ _ _ hk (HX.out _ hk).2 hg) ?_; rintro e w' ⟨rfl, hk⟩))
                all_goals
                  have HK9 := Lib.hid (HEND.out _ (by assumption))
                  rename_i hHeld
                  clear hHeld hk0 c0 c1 p0 HX HN7 HS7 HEND HB HW8 HBL
                  go_wp2_with fail
                  go_roundw
                  case rel => exact ⟨k + 1, _, rfl, by omega, by go_num, HK9⟩
                  case measure => simp [RowKit.intOf]; omega
              · obtain rfl : i = k := by omega
                have k1 : (i : Int) ≤ (i : Int) := Int.le_refl _
                obtain ⟨⟨f3, P3, hf3, hv3, hsh3⟩, hrow3, hk3⟩ := shK_out HJ.out
                have CI := dImage A.d A.m A.s A.b 0 S1 (fun _ => none) W hv3.isD
                rw [HIM.out] at CI
                have HCI := Lib.hid CI
                have CD : ∀ V, KeptIn (· < W.heap.size) W V → Calls Tryz.prog 41 #[.pointer (some ⟨A.d, 0, none⟩)] V (LooS V) := fun V hV => by
                  refine Calls.mono (dLoose A.d A.m A.s A.b 0 S1 (fun _ => none) V (hv3.old hV).isD) ?_
                  rintro e w' ⟨v, rfl, h1, h2⟩
                  rw [places_none] at h1
                  obtain ⟨c, cp, rfl, _⟩ := IntsAt.shape (ks := []) h1
                  exact ⟨c, cp, rfl, h2⟩
                have HCD := Lib.hid CD
                have HK3 := Lib.hid (HKV.out.step hk3)
                clear CI CD hf3 hv3 hsh3 hrow3 hk3 HJ
                go_wp2_with (first
                  | (go_at_call 35; refine HCI.out.mono ?_; rintro e W7 ⟨rfl, k7⟩)
                  | (go_at_call 41; refine (HCD.out W7 k7).mono ?_; rintro e W8 hR; unfold LooS at hR; obtain ⟨c8, cp8, rfl, k8⟩ := hR))
                go_ret
                exact ⟨rfl, HK3.out.step (k7.step k8)⟩

end Go.Proofs.YtbklidfcmcdodaaGreatDoor
