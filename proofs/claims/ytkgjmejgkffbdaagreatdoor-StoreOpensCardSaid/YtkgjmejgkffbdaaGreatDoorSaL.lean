import Derived.Test.YtkgjmejgkffbdaaGreatDoorLf2L
import Derived.Test.YtkgjmejgkffbdaaGreatDoorM12
import Derived.Test.YtkgjmejgkffbdaaGreatDoorM7
/- A store's Add, Free, Fresh. -/
set_option linter.unusedVariables false
namespace Go.Proofs.YtkgjmejgkffbdaaGreatDoor
open Go.RowKit


set_option maxHeartbeats 1000000 in
theorem stAddOk {A : Ad} {N : Nat} {p : Pw} {S : List (List UInt8)} {M : Int → Option (List UInt8)} {h : Hd} {a : Nat} {P : List Pag} {w : World} (k : Sv A N p S M h a P w) (hT : Tab w) (lv : Int) (a' : Option Addr) (cap : Nat) (ps : Pairs) (hps : IsPs w a' ps) (hg : goodN lv ps = true) (q : Nat) (hf : freeP P = some q) :
    Calls Tryz.prog 11 #[.pointer (some ⟨A.st, 0, none⟩), leafV lv a' ps.length cap] w fun e w' => e = .returned (.tuple #[.int .i64 q, .int .i64 0]) ∧ Sv A N p S M h a (P.set q (1, bytesN lv ps)) w' ∧ Fr A w w' := by
  obtain ⟨q1, q2, q3⟩ := freeP_some hf
  have HF := Lib.hid (freeP_first hf)
  have HQ := Lib.hid (And.intro q2 q3)
  obtain ⟨n, hn⟩ : ∃ n, P.length = n := ⟨_, rfl⟩
  have hpl := k.plen.1
  rw [hn] at hpl
  obtain ⟨pl, hpl2⟩ : ∃ pl, ps.length = pl := ⟨_, rfl⟩
  have CB := fun V (hk : KeptIn (· < w.heap.size) w V) => lfBytesOk lv a' cap ps V (hT.old hk) (hps.old hk) hg
  simp only [hpl2] at CB
  have HCB := Lib.hid CB
  obtain ⟨tx, htx⟩ : ∃ tx, bytesN lv ps = tx := ⟨_, rfl⟩
  have htl : tx.length = 256 := by rw [← htx]; exact bytesN_length lv ps (good_parts hg).2.2
  simp only [htx] at HCB ⊢
  have HK := Lib.hid k
  have HTL := Lib.hid htl
  rw [hpl2]
  clear CB hT hps hg htx htl hpl2 k
  unfold leafV at *
  obtain ⟨W0, hW0⟩ : ∃ W0, w.alloc (.cells #[.int .i64 lv, .slice a' pl cap] 47) = W0 := ⟨_, rfl⟩
  have hk0 : KeptIn (· < w.heap.size) w W0 := by rw [← hW0]; exact (KeptIn.refl _ w).alloc (fun _ h => h) _
  have HW0 := Lib.hid hW0
  clear hW0
  go_enter Tryz.func11, Tryz.ntmps11
  go_wp2_with fail
  rw [HW0.out]
  refine (HCB.out W0 hk0).mono ?_
  rintro e W1 ⟨rfl, k1⟩
  have hk1 : KeptIn (· < w.heap.size) w W1 := hk0.step k1
  have K1 := Lib.hid hk1
  have s1 := HK.out.old hk1
  have c7 := s1.isS.c7
  have hat := s1.isS.at
  rw [hn] at c7
  have HAT := Lib.hid hat
  have HN := Lib.hid hn
  have fz1 := s1.isS.fp
  have FZ := Lib.hid fz1
  have HS1 := Lib.hid s1
  clear hat hk1 k1 hk0 s1 fz1 HW0 hn HCB
  have hqn : q < n := by rw [← HN.out]; exact HQ.out.1
  clear hf q2 q3
  go_wp2_with fail
  go_loopw [8] (fun c wr => ∃ (j : Nat) (W' : World), W' = wr ∧ wr = W1 ∧ 1 ≤ j ∧ j ≤ q ∧ c = .int .i64 j) (fun c _ => n - (RowKit.intOf c).toNat)
  case atStart => exact ⟨1, _, rfl, by trivial, Nat.le_refl _, q1, rfl⟩
  case round =>
    obtain ⟨j, W', rfl, rfl, hj1, hjq, rfl⟩ := hrel
    have b0 : (0 : Int) ≤ (j : Int) := by omega
    have b1 : (j : Int) < (n : Int) := by omega
    obtain ⟨e1, e2⟩ := HAT.out j (by rw [HN.out]; omega)
    by_cases hlt : j < q
    · have hnf := HF.out j hj1 hlt
      obtain ⟨sj, hsj⟩ : ∃ sj, stOf P j = sj := ⟨_, rfl⟩
      rw [hsj] at e1 hnf
      have b2 : ¬ (sj : Int) = 0 := by omega
      clear hnf hsj
      go_wp2_with fail
      go_roundw
      case rel => exact ⟨j + 1, _, rfl, by trivial, by omega, by omega, by go_num⟩
      case measure => simp [RowKit.intOf]; omega
    · obtain rfl : j = q := by omega
      have hq0 := HQ.out.2
      rw [hq0] at e1
      obtain ⟨tj, htj⟩ : ∃ tj, txOf P j = tj := ⟨_, rfl⟩
      rw [htj] at e2
      have f1 := FZ.out (j * 2); have f2 := FZ.out (j * 2 + 1)
      have hset := HS1.out.isS.set j (by rw [HN.out]; exact hqn) (1, tx)
      have hkp : KeptIn (fun k => k < W'.heap.size ∧ k ≠ A.st ∧ k ≠ A.pg) W' ((W'.setCell ⟨A.pg, j * 2, none⟩ (.int .i64 ((1 : Nat) : Int))).setCell ⟨A.pg, j * 2 + 1, none⟩ (.string ⟨tx.toArray⟩)) :=
        ((KeptIn.refl _ W').setCell (p := ⟨A.pg, j * 2, none⟩) (by simp) _).setCell (p := ⟨A.pg, j * 2 + 1, none⟩) (by simp) _
      have hl := HQ.out.1
      have hfin := HS1.out.sto hset hkp (by rw [List.length_set]) HS1.out.good HS1.out.ha
        (fun r => by
          rw [stOf_set P j r _ hl]
          by_cases e : r = j
          · rw [if_pos e]; show 1 ≤ 2; decide
          · rw [if_neg e]; exact HS1.out.sts r)
        (fun r hr => by
          rw [txOf_set P j r _ hl]
          rw [stOf_set P j r _ hl] at hr
          by_cases e : r = j
          · rw [if_pos e]; exact HTL.out
          · rw [if_neg e] at hr ⊢; exact HS1.out.txs r hr)
      have HFIN := Lib.hid hfin
      clear hset hkp hfin hq0 htj hl
      go_wp2_with fail
      go_ret2
      exact ⟨rfl, HFIN.out.1, (Fr.of_old K1.out).trans' HFIN.out.2⟩

set_option maxHeartbeats 1000000 in
theorem stAddFull {A : Ad} {N : Nat} {p : Pw} {S : List (List UInt8)} {M : Int → Option (List UInt8)} {h : Hd} {a : Nat} {P : List Pag} {w : World} (k : Sv A N p S M h a P w) (hT : Tab w) (lv : Int) (a' : Option Addr) (cap : Nat) (ps : Pairs) (hps : IsPs w a' ps) (hg : goodN lv ps = true) (hf : freeP P = none) :
    Calls Tryz.prog 11 #[.pointer (some ⟨A.st, 0, none⟩), leafV lv a' ps.length cap] w fun e w' => e = .returned (.tuple #[.int .i64 0, .int .i64 6]) ∧ KeptIn (· < w.heap.size) w w' := by
  have HF := Lib.hid (freeP_none hf)
  have htwo := k.two
  obtain ⟨n, hn⟩ : ∃ n, P.length = n := ⟨_, rfl⟩
  have hpl := k.plen.1
  rw [hn] at hpl
  obtain ⟨pl, hpl2⟩ : ∃ pl, ps.length = pl := ⟨_, rfl⟩
  have CB := fun V (hk : KeptIn (· < w.heap.size) w V) => lfBytesOk lv a' cap ps V (hT.old hk) (hps.old hk) hg
  simp only [hpl2] at CB
  have HCB := Lib.hid CB
  obtain ⟨tx, htx⟩ : ∃ tx, bytesN lv ps = tx := ⟨_, rfl⟩
  have htl : tx.length = 256 := by rw [← htx]; exact bytesN_length lv ps (good_parts hg).2.2
  simp only [htx] at HCB ⊢
  have HK := Lib.hid k
  have HTL := Lib.hid htl
  rw [hpl2]
  clear CB hT hps hg htx htl hpl2 k
  unfold leafV at *
  obtain ⟨W0, hW0⟩ : ∃ W0, w.alloc (.cells #[.int .i64 lv, .slice a' pl cap] 47) = W0 := ⟨_, rfl⟩
  have hk0 : KeptIn (· < w.heap.size) w W0 := by rw [← hW0]; exact (KeptIn.refl _ w).alloc (fun _ h => h) _
  have HW0 := Lib.hid hW0
  clear hW0
  go_enter Tryz.func11, Tryz.ntmps11
  go_wp2_with fail
  rw [HW0.out]
  refine (HCB.out W0 hk0).mono ?_
  rintro e W1 ⟨rfl, k1⟩
  have hk1 : KeptIn (· < w.heap.size) w W1 := hk0.step k1
  have K1 := Lib.hid hk1
  have s1 := HK.out.old hk1
  have c7 := s1.isS.c7
  have hat := s1.isS.at
  rw [hn] at c7
  have HAT := Lib.hid hat
  have HN := Lib.hid hn
  have fz1 := s1.isS.fp
  have FZ := Lib.hid fz1
  have HS1 := Lib.hid s1
  clear hat hk1 k1 hk0 s1 fz1 HW0 hn HCB
  have hn2 : 2 ≤ n := by rw [← HN.out]; exact htwo
  clear hf htwo
  go_wp2_with fail
  go_loopw [8] (fun c wr => ∃ (j : Nat) (W' : World), W' = wr ∧ wr = W1 ∧ 1 ≤ j ∧ j ≤ n ∧ c = .int .i64 j) (fun c _ => n - (RowKit.intOf c).toNat)
  case atStart => exact ⟨1, _, rfl, by trivial, Nat.le_refl _, by omega, rfl⟩
  case round =>
    obtain ⟨j, W', rfl, rfl, hj1, hjq, rfl⟩ := hrel
    have b0 : (0 : Int) ≤ (j : Int) := by omega
    by_cases hlt : j < n
    · have b1 : (j : Int) < (n : Int) := by omega
      obtain ⟨e1, e2⟩ := HAT.out j (by rw [HN.out]; omega)
      have hnf := HF.out j hj1 (by rw [HN.out]; exact hlt)
      obtain ⟨sj, hsj⟩ : ∃ sj, stOf P j = sj := ⟨_, rfl⟩
      rw [hsj] at e1 hnf
      have b2 : ¬ (sj : Int) = 0 := by omega
      clear hnf hsj
      go_wp2_with fail
      go_roundw
      case rel => exact ⟨j + 1, _, rfl, by trivial, by omega, by omega, by go_num⟩
      case measure => simp [RowKit.intOf]; omega
    · have b1 : (n : Int) ≤ (j : Int) := by omega
      go_wp2_with fail
      go_ret2
      exact ⟨rfl, K1.out⟩

theorem stAddNil (lv : Int) (a' : Option Addr) (n cap : Nat) (w : World) :
    Calls Tryz.prog 11 #[.pointer none, leafV lv a' n cap] w fun e w' => e = .returned (.tuple #[.int .i64 0, .int .i64 2]) ∧ KeptIn (· < w.heap.size) w w' := by
  unfold leafV
  go_enter Tryz.func11, Tryz.ntmps11
  go_wp2
  go_ret2
  exact ⟨rfl, (KeptIn.refl _ _).alloc (fun _ h => h) _⟩

/-- How many pages are in a state. -/
def cntS (P : List Pag) (z : Nat) : Nat := cntB (fun q => decide (stOf P q = z)) P.length

set_option maxHeartbeats 1000000 in
theorem stCount (A : Ad) (h : Hd) (a : Nat) (P : List Pag) (z : Nat) (w : World) (k : StAt A h a P w) (h1 : 1 ≤ P.length) (h2 : P.length ≤ 512) :
    Calls Tryz.prog 52 #[.pointer (some ⟨A.st, 0, none⟩), .int .i64 z] w fun e w' => e = .returned (.int .i64 (cntS P z)) ∧ w = w' := by
  have CP := stPages A h a P w k
  obtain ⟨o, ho⟩ : ∃ o, cntS P z = o := ⟨_, rfl⟩
  rw [ho]
  unfold cntS at ho
  obtain ⟨n, hn⟩ : ∃ n, P.length = n := ⟨_, rfl⟩
  have c7 := k.c7
  have HAT := Lib.hid k.at
  rw [hn] at c7 CP h1 h2 ho
  have HCP := Lib.hid CP
  have HN := Lib.hid hn
  have HO := Lib.hid ho
  clear k CP hn ho
  go_enter Tryz.func52, Tryz.ntmps52
  go_wp2_with fail
  go_loopw [5, 6] (fun c d wr => ∃ (j t : Nat) (W' : World), W' = wr ∧ wr = w ∧ 1 ≤ j ∧ j ≤ n ∧ c = .int .i64 t ∧ d = .int .i64 j ∧ Hid (cntB (fun q => decide (stOf P q = z)) j = t)) (fun _ d _ => n - (RowKit.intOf d).toNat)
  case atStart => exact ⟨1, 0, _, rfl, by trivial, Nat.le_refl _, h1, rfl, rfl, Lib.hid (cntB_one _ _ (Nat.le_refl _))⟩
  case round =>
    obtain ⟨j, t, W', rfl, rfl, hj1, hjn, rfl, rfl, HT⟩ := hrel
    have b0 : (0 : Int) ≤ (j : Int) := by omega
    have ht : t ≤ 512 := by have h3 := HT.out; have h4 := cntB_le (fun q => decide (stOf P q = z)) j; omega
    by_cases hlt : j < n
    · have b1 : (j : Int) < (n : Int) := by omega
      obtain ⟨e1, e2⟩ := HAT.out j (by rw [HN.out]; omega)
      have hs := cntB_succ (fun q => decide (stOf P q = z)) j
      rw [HT.out, decide_eq_true hj1, Bool.true_and] at hs
      obtain ⟨sj, hsj⟩ : ∃ sj, stOf P j = sj := ⟨_, rfl⟩
      rw [hsj] at e1 hs
      by_cases hz : sj = z
      · rw [decide_eq_true hz, if_pos rfl] at hs
        have HS := Lib.hid hs
        have b2 : (sj : Int) = (z : Int) := by omega
        clear hs hsj hz HT e2
        go_wp2_with (go_at_call 25; refine HCP.out.mono ?_; rintro e w' ⟨rfl, rfl⟩)
        go_roundw
        case rel => exact ⟨j + 1, t + 1, _, rfl, by trivial, by omega, by omega, by go_num, by go_num, HS⟩
        case measure => simp [RowKit.intOf]; omega
      · rw [decide_eq_false hz, if_neg (by simp)] at hs
        have HS := Lib.hid hs
        have b2 : ¬ (sj : Int) = (z : Int) := by omega
        clear hs hsj hz HT e2
        go_wp2_with (go_at_call 25; refine HCP.out.mono ?_; rintro e w' ⟨rfl, rfl⟩)
        go_roundw
        case rel => exact ⟨j + 1, t, _, rfl, by trivial, by omega, by omega, rfl, by go_num, HS⟩
        case measure => simp [RowKit.intOf]; omega
    · obtain rfl : j = n := by omega
      obtain rfl : t = o := by rw [← HT.out, HO.out]
      have b1 : (j : Int) ≤ (j : Int) := by omega
      go_wp2_with (go_at_call 25; refine HCP.out.mono ?_; rintro e w' ⟨rfl, rfl⟩)
      go_ret
      first | exact ⟨rfl, rfl⟩ | exact ⟨trivial, rfl⟩

theorem stFree (A : Ad) (h : Hd) (a : Nat) (P : List Pag) (w : World) (k : StAt A h a P w) (h1 : 1 ≤ P.length) (h2 : P.length ≤ 512) :
    Calls Tryz.prog 26 #[.pointer (some ⟨A.st, 0, none⟩)] w fun e w' => e = .returned (.int .i64 (cntS P 0)) ∧ w = w' := by
  have C := Lib.hid (stCount A h a P 0 w k h1 h2)
  clear k h1 h2
  go_enter Tryz.func26, Tryz.ntmps26
  go_wp2_with (go_at_call 52; refine C.out.mono ?_; rintro e w' ⟨rfl, rfl⟩)
  go_ret
  first | exact ⟨rfl, rfl⟩ | exact ⟨trivial, rfl⟩
theorem stFresh (A : Ad) (h : Hd) (a : Nat) (P : List Pag) (w : World) (k : StAt A h a P w) (h1 : 1 ≤ P.length) (h2 : P.length ≤ 512) :
    Calls Tryz.prog 27 #[.pointer (some ⟨A.st, 0, none⟩)] w fun e w' => e = .returned (.int .i64 (cntS P 1)) ∧ w = w' := by
  have C := Lib.hid (stCount A h a P 1 w k h1 h2)
  clear k h1 h2
  go_enter Tryz.func27, Tryz.ntmps27
  go_wp2_with (go_at_call 52; refine C.out.mono ?_; rintro e w' ⟨rfl, rfl⟩)
  go_ret
  first | exact ⟨rfl, rfl⟩ | exact ⟨trivial, rfl⟩
theorem stCountNil (z : Nat) (w : World) : Calls Tryz.prog 52 #[.pointer none, .int .i64 z] w fun e w' => e = .returned (.int .i64 0) ∧ w = w' := by
  have CP := Lib.hid (stPagesNil w)
  go_enter Tryz.func52, Tryz.ntmps52
  go_wp2_with fail
  go_loopw [5, 6] (fun c d wr => ∃ W' : World, W' = wr ∧ wr = w ∧ c = .int .i64 0 ∧ d = .int .i64 1) (fun _ _ _ => 0)
  case atStart => exact ⟨_, rfl, by trivial, rfl, rfl⟩
  case round =>
    obtain ⟨W', rfl, rfl, rfl, rfl⟩ := hrel
    go_wp2_with (go_at_call 25; refine CP.out.mono ?_; rintro e w' ⟨rfl, rfl⟩)
    go_ret
    exact ⟨rfl, rfl⟩
theorem stFreeNil (w : World) : Calls Tryz.prog 26 #[.pointer none] w fun e w' => e = .returned (.int .i64 0) ∧ w = w' := by
  have C := Lib.hid (stCountNil 0 w)
  go_enter Tryz.func26, Tryz.ntmps26
  go_wp2_with (go_at_call 52; refine C.out.mono ?_; rintro e w' ⟨rfl, rfl⟩)
  go_ret
  first | exact ⟨rfl, rfl⟩ | exact ⟨trivial, rfl⟩
theorem stFreshNil (w : World) : Calls Tryz.prog 27 #[.pointer none] w fun e w' => e = .returned (.int .i64 0) ∧ w = w' := by
  have C := Lib.hid (stCountNil 1 w)
  go_enter Tryz.func27, Tryz.ntmps27
  go_wp2_with (go_at_call 52; refine C.out.mono ?_; rintro e w' ⟨rfl, rfl⟩)
  go_ret
  first | exact ⟨rfl, rfl⟩ | exact ⟨trivial, rfl⟩

end Go.Proofs.YtkgjmejgkffbdaaGreatDoor
