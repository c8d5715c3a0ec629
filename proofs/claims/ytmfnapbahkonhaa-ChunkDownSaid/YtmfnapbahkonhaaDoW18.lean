/- ChunkDown's walk. -/
import Derived.Test.YtmfnapbahkonhaaCd18
set_option linter.unusedVariables false
namespace Go.Proofs.Ytmfnapbahkonhaa
open Go.RowKit

set_option maxHeartbeats 4000000 in
set_option maxRecDepth 100000 in
theorem downW18 (fz : Int) (a : Option Addr) (len cap : Nat) (zs : List Int) (w : World) (wf : (Lit.int .i64 fz).wf = true) (w0 : IsRow .i64 w a len cap zs) :
    Calls Try.prog 5 #[.int .i64 fz, .slice a len cap] w fun e w' => e = .returned (.bool true) ∧ KeptIn (· < w.heap.size) w w' := by
  have hl := w0.len_le
  unfold maxLen at hl
  have hlI : (len : Int) ≤ 9223372036854775807 := by omega
  obtain ⟨fu, hfu, hfe⟩ := modWalk fz 40 (by decide) (by decide)
  have HFU : Hid (wrap64 ((IntKind.u64.wrap fz).tmod 40) = (fu : Int) ∧ fu < 40) := Lib.hid ⟨hfe, hfu⟩
  have HR := Lib.hid w0
  clear hl w0 wf hfe hfu
  go_enter Try.func5, Try.ntmps5
  go_wp2_with (go_at_call 6; refine (awake18 w).mono ?_)
  rintro e w1 ⟨rfl, hk1⟩
  by_cases hlong : 30 < len
  · have hL2 : (30 : Int) < (len : Int) := by omega
    have HK1 := Lib.hid hk1
    clear hk1
    go_wp2
    go_ret
    exact ⟨rfl, HK1.out⟩
  have hL2 : ¬ (30 : Int) < (len : Int) := by omega
  have hL3 : len ≤ 30 := by omega
  have hL4 : decide ((30 : Int) < (len : Int)) = false := decide_eq_false hL2
  have C1 := Lib.hid (vNew (w := w) w1 hk1)
  clear hlong hk1
  go_wp2_with (go_at_call 7; refine C1.out.mono ?_)
  rintro e w1 ⟨m, rfl, hp1, hm1, hk1⟩
  have C2 := Lib.hid (vMade (w := w) w1 hk1 hp1 hm1 20 20 (by decide))
  clear hp1 hm1 hk1 C1
  go_wp2_with (go_at_call 29; refine C2.out.mono ?_)
  rintro e w2 ⟨d, s, b, rfl, hd2⟩
  have C3 := Lib.hid (uMade hd2 20 20 (by decide))
  clear hd2 C2
  go_wp2_with (go_at_call 29; refine C3.out.mono ?_)
  rintro e w3 ⟨d2, s2, b2, rfl, hd3⟩
  obtain ⟨T, hT⟩ : ∃ T, mkT ⟨d, s, b, 0, List.replicate 20 zeroS, fun _ => none⟩ ⟨d2, s2, b2, 0, List.replicate 20 zeroS, fun _ => none⟩ = T := ⟨_, rfl⟩
  rw [hT] at hd3
  have e0 : (T 0).d = d := by rw [← hT]; rfl
  have e1 : (T 1).d = d2 := by rw [← hT]; rfl
  have hl0 : (T 0).S.length = 20 := by rw [← hT]; rfl
  have hl1 : (T 1).S.length = 20 := by rw [← hT]; rfl
  have hM0 : (T 0).M = fun _ => none := by rw [← hT]; rfl
  have hN0 : (T 0).N = 0 := by rw [← hT]; rfl
  have cn := uNew hd3 2 (by rw [hl0, hl1]; decide)
  rw [e0, e1] at cn
  have C4 := Lib.hid cn
  have HE := Lib.hid (And.intro e0 (And.intro hl0 (And.intro hM0 hN0)))
  clear cn hd3 C3 hT e0 e1 hl0 hl1 hM0 hN0
  go_wp2_with (go_at_call 9; refine C4.out.mono ?_)
  rintro e w4 ⟨rfl, hd4⟩
  obtain ⟨k, hk⟩ : ∃ k, w3.heap.size = k := ⟨_, rfl⟩
  rw [hk] at hd4 ⊢
  have HD4 := Lib.hid hd4
  clear hd4 C4 hk
  go_upto_region 10 with fail
  go_wp2_with (go_at_call 30; rw [HFU.out.1]; refine (mFuse m true 1 0 (-1) (fu : Int) w4 HD4.out.dk.isP.1).mono ?_)
  rintro e w5 ⟨rfl, hp5, hk5⟩
  have hp5' : IsP m ⟨true, 1, 0, (fu : Int)⟩ w5 := ⟨hp5, by have := HFU.out.2; show (fu : Int) ≤ _; omega⟩
  have HD5 := Lib.hid (HD4.out.pow hp5' hk5)
  clear hp5 hp5' hk5 HD4
  obtain ⟨p0, hp0⟩ : ∃ p : Pw, (⟨true, 1, 0, (fu : Int)⟩ : Pw) = p := ⟨_, rfl⟩
  rw [hp0] at HD5
  clear hp0
  go_wp2_with fail
  obtain ⟨g, hg⟩ : ∃ g, w5.heap.size = g := ⟨_, rfl⟩
  obtain ⟨W0, hW0⟩ : ∃ W, w5.alloc (.cells #[.bool false, .bool false, .bool false, .bool false, .bool false, .bool false, .bool false, .bool false, .bool false, .bool false] 65) = W := ⟨_, rfl⟩
  rw [hW0, hg]
  have hJ0 : Cd18 w k m g d 0 (List.replicate 10 false) p0 T W0 := by
    refine .start (HD5.out.old (by rw [← hW0]; exact keptNew _ _)) ?_ (by rw [← hg]; exact HD5.out.kept.size) HE.out.2.2.1 HE.out.2.1 HE.out.1 HE.out.2.2.2
    rw [← hW0, ← hg]
    exact heap_alloc_new w5 _
  have HJ0 := Lib.hid hJ0
  clear hJ0 hW0 hg HD5 HE
  go_loopw [10] (fun c wr => ∃ (j : Nat) (B : List Bool) (p : Pw) (T : Nat → Dsk) (W : World), W = wr ∧ j ≤ len ∧ c = .int .i64 (j : Int) ∧ Hid (Cd18 w k m g d j B p T W)) (fun c _ => len - (RowKit.intOf c).toNat)
  case atStart => exact ⟨0, _, _, _, W0, rfl, Nat.zero_le _, rfl, HJ0⟩
  case round =>
    obtain ⟨j, B, p, T, W, rfl, hj, rfl, HJ⟩ := hrel
    clear HJ0
    by_cases hlt : j < len
    · have b0 : (0 : Int) ≤ (j : Int) := by omega
      have b1 : (j : Int) < (len : Int) := by omega
      obtain ⟨bb, off, rfl, hbb, hc⟩ := HR.out.elem (by omega)
      have cj := (World.cell?_of_block (a := ⟨bb, off + j, none⟩) (HJ.out.lw.kept.block bb hbb)).trans (hc j hlt).1
      obtain ⟨q, hq, hqe⟩ := modWalk (zs.getD j 0) 10 (by decide) (by decide)
      have HQ : Hid (wrap64 ((IntKind.u64.wrap (zs.getD j 0)).tmod 10) = (q : Int) ∧ q < 10) := Lib.hid ⟨hqe, hq⟩
      obtain ⟨z, hz⟩ : ∃ z, zs.getD j 0 = z := ⟨_, rfl⟩
      rw [hz] at cj HQ
      clear hc hbb hqe hq hz
      go_upto_region 16 with fail
      rw [HQ.out.1]
      have q0 : (0 : Int) ≤ (q : Int) := by omega
      have q1 : (q : Int) < 10 := by have := HQ.out.2; omega
      have hq10 := HQ.out.2
      have cq := HJ.out.cell q hq10
      have fq : W.frozen? ⟨g, q, none⟩ = false := frozen_of_row _ _ _ _ _ HJ.out.mt
      have HM := Lib.hid (HJ.out.mark q hq10)
      have HBS : Hid ((B.set q true)[q]? = some true) := Lib.hid (by rw [List.getElem?_set_self (by rw [HJ.out.bl]; exact hq10)])
      obtain ⟨B2, hB2⟩ : ∃ B2, B.set q true = B2 := ⟨_, rfl⟩
      rw [hB2] at HM HBS
      clear hB2 hq10 HJ cj
      go_upto_region 17 with fail
      obtain ⟨W1, hW1⟩ : ∃ W1, W.setCell ⟨g, q, none⟩ (.bool true) = W1 := ⟨_, rfl⟩
      rw [hW1] at HM ⊢
      clear hW1 cq fq
      have CF := Lib.hid (lFill 97 2 32 rfl (by decide) W1)
      go_wp2_with (go_at_call 21; refine CF.out.mono ?_)
      rintro e W2 ⟨rfl, hk2⟩
      have HM2 := Lib.hid (HM.out.old hk2)
      clear HM CF hk2
      obtain ⟨l, hl⟩ : ∃ l : List UInt8, List.replicate 32 97 = l := ⟨_, rfl⟩
      rw [hl]
      have hll : l.length = 16 * 2 := by rw [← hl]; rfl
      have cw := ckWrite HM2.out.lw.dk 0 q 0 2 l (by decide) (by rw [HM2.out.sl]; exact HQ.out.2) hll (by decide) (by have := HM2.out.nn; unfold maxLen; omega)
      simp only [spV] at cw
      have CW := Lib.hid cw
      have HL := Lib.hid fun V (hV : Wr18 k m 2 p T 0 2 (q * 2 + 0) l W2 V) => HM2.out.wr HQ.out.2 HBS.out hV
      clear cw hll hl
      go_wp2_with (go_at_call 22; refine CW.out.mono ?_)
      rintro e W3 ⟨rfl, hw3⟩
      have HJ3 := Lib.hid (HL.out W3 hw3)
      clear CW HL hw3 HM2
      obtain ⟨T3, hT3⟩ : ∃ T3, upT T 0 ((T 0).wr 2 ((q * 2 + 0 : Nat) : Int) l (Pw.go 2 p).1) = T3 := ⟨_, rfl⟩
      rw [hT3] at HJ3
      clear hT3
      by_cases hgo : (Pw.go 2 p).1 = 2
      · have hr : wrE 2 p = 0 := if_pos hgo
        rw [hr]
        clear hr hgo
        go_wp2_with fail
        go_roundw
        case rel => exact ⟨j + 1, _, _, _, _, rfl, by omega, by go_num, HJ3⟩
        case measure => simp [RowKit.intOf]; omega
      · have hr : wrE 2 p = 4 := if_neg hgo
        rw [hr]
        have hoff := go_off 2 p hgo
        have CO := mOn m _ _ _ _ W3 HJ3.out.lw.dk.isP.1
        rw [hoff] at CO
        have HCO := Lib.hid CO
        clear hr hgo hoff CO
        go_wp2_with (go_at_call 31; refine HCO.out.mono ?_)
        rintro e _ ⟨rfl, rfl⟩
        go_wp2_with fail
        go_roundw
        case rel => exact ⟨j + 1, _, _, _, _, rfl, by omega, by go_num, HJ3⟩
        case measure => simp [RowKit.intOf]; omega
    · obtain rfl : j = len := by omega
      have HLJ := Lib.hid hL3
      clear hj hlt hL2 hL3 hL4 hlI HR
      cases hon : p.on with
      | true =>
        have CO := mOn m _ _ _ _ W HJ.out.lw.dk.isP.1
        rw [hon] at CO
        have HCO := Lib.hid CO
        clear hon CO
        go_wp2_with (go_at_call 31; refine HCO.out.mono ?_)
        rintro e _ ⟨rfl, rfl⟩
        have cl := dLoose _ _ _ _ _ _ _ _ (HJ.out.lw.dk.isD 0 (by decide))
        rw [HJ.out.d0] at cl
        have HME := Lib.hid fun i y => HJ.out.meant (i := i) (y := y)
        have HLE := Lib.hid HJ.out.ples
        generalize hks : places _ _ = ks at cl HME HLE
        obtain ⟨n, hn⟩ : ∃ n, ks.length = n := ⟨_, rfl⟩
        have CL : Hid (Calls Try.prog 26 #[.pointer (some ⟨d, 0, none⟩)] W fun e w' => ∃ a7 cap7, e = .returned (.slice a7 n cap7) ∧ KeptIn (· < W.heap.size) W w' ∧ ∀ i y, ks[i]? = some y → ∃ g7, a7 = some ⟨g7, 0, none⟩ ∧ w'.cell? ⟨g7, i, none⟩ = some (.int .i64 y)) := Lib.hid (cl.mono (by
          rintro e w' ⟨v, rfl, hv, hkk⟩
          obtain ⟨a7, cap7, rfl, hsh⟩ := IntsAt.shape (B := W.heap.size) hv
          refine ⟨a7, cap7, by rw [hn], hkk, fun i y hy => ?_⟩
          have hi := (List.getElem?_eq_some_iff.1 hy).1
          obtain ⟨g7, rfl, _, _, hc⟩ := hsh (by omega)
          exact ⟨g7, rfl, hc i y hy⟩))
        have HN := Lib.hid hn
        have hnI : (n : Int) ≤ 9223372036854775807 := by have := HLE.out; omega
        clear cl hks hn HLE
        go_wp2_with (go_at_call 26; refine CL.out.mono ?_)
        rintro e W9 ⟨a7, cap7, rfl, hk9, hc9⟩
        have HX9 := Lib.hid (HJ.out.old hk9)
        have HC9 := Lib.hid hc9
        clear CL hk9 hc9
        go_wp2_with fail
        go_loopw [16] (fun c wr => ∃ (i : Nat) (V : World), V = wr ∧ V = W9 ∧ i ≤ n ∧ c = .int .i64 (i : Int)) (fun c _ => n - (RowKit.intOf c).toNat)
        case atStart => exact ⟨0, W9, rfl, rfl, Nat.zero_le _, rfl⟩
        case round =>
          obtain ⟨i, V, rfl, rfl, hi, rfl⟩ := hrel
          by_cases hlt : i < n
          · have b0 : (0 : Int) ≤ (i : Int) := by omega
            have b1 : (i : Int) < (n : Int) := by omega
            have hky := List.getElem?_eq_getElem (show i < ks.length by rw [HN.out]; exact hlt)
            obtain ⟨g7, rfl, hcy⟩ := HC9.out i _ hky
            obtain ⟨q, hq, hdq, y0, y1, hBq⟩ := HME.out i _ hky
            obtain ⟨y, hy⟩ : ∃ y, ks[i]'(by rw [HN.out]; exact hlt) = y := ⟨_, rfl⟩
            rw [hy] at hcy hdq y0 y1
            have cq := HX9.out.cell q hq
            rw [hBq] at cq
            have q0 : (0 : Int) ≤ (q : Int) := by omega
            have q1 : (q : Int) < 10 := by omega
            clear hky hy y0 y1 hq hBq
            go_wp2
            go_roundw
            case rel => exact ⟨i + 1, _, rfl, rfl, by omega, by go_num⟩
            case measure => simp [RowKit.intOf]; omega
          · obtain rfl : i = n := by omega
            have HF := Lib.hid HX9.out.lw.kept
            go_wp2_with fail
            go_ret
            exact ⟨rfl, HF.out⟩
      | false =>
        have CO := mOn m _ _ _ _ W HJ.out.lw.dk.isP.1
        rw [hon] at CO
        have HCO := Lib.hid CO
        have cr : ∀ V p' T', p'.on = false → Cd18 w k m g d j B p' T' V → Calls Try.prog 13 #[.pointer (some ⟨k, 0, none⟩), .agg #[.int .i64 0, .int .i64 0], .int .i64 0, .int .i64 1] V fun e w' => e = .returned (.tuple #[.string ⟨#[]⟩, .int .i64 4]) ∧ KeptIn (· < V.heap.size) V w' := fun V p' T' ho hV => by
          have := ckReadDown hV.lw.dk 0 0 0 1 (by decide) (by rw [hV.sl]; decide) (by decide) ho
          simp only [spV] at this
          exact this
        have CR := Lib.hid (cr W p T hon HJ.out)
        clear CO cr
        go_wp2_with (go_at_call 31; refine HCO.out.mono ?_)
        rintro e _ ⟨rfl, rfl⟩
        clear HCO
        go_wp2_with (go_at_call 13; refine CR.out.mono ?_)
        rintro e W4 ⟨rfl, hk4⟩
        have HJ4 := Lib.hid (HJ.out.old hk4)
        clear hk4 CR HJ
        have cz : Calls Try.prog 17 #[.pointer (some ⟨k, 0, none⟩), .agg #[.int .i64 0, .int .i64 0]] W4 fun e w' => e = .returned (.int .i64 4) ∧ ∃ T2, Cd18 w k m g d (j + 1) B p.use T2 w' := by
          have h := ckZeroAny HJ4.out.lw.dk ⟨0, 0⟩ 4 (fun w' => ∃ T2, Cd18 w k m g d (j + 1) B p.use T2 w') fun V hV => by
            have hV4 := HJ4.out.old hV
            have := ckWrite hV4.lw.dk 0 0 0 2 (List.replicate (2 * 16) 0) (by decide) (by rw [hV4.sl]; decide) (by simp) (by decide) (by have := hV4.nn; have := HLJ.out; unfold maxLen; omega)
            unfold wrE at this
            have hg0 := off_go hon 1
            rw [hg0, if_neg (show ¬ (0 : Nat) = 2 by decide)] at this
            refine this.mono ?_
            rintro e w' ⟨he, hw⟩
            have hz := hV4.wr0 (by rw [hg0]) hw
            rw [hg0] at hz
            exact ⟨he, _, hz⟩
          simp only [spV] at h
          exact h
        have CZ := Lib.hid cz
        have HON := Lib.hid hon
        clear cz hon
        go_wp2_with (go_at_call 17; refine CZ.out.mono ?_)
        rintro e W5 ⟨rfl, T5, hj5⟩
        have HJ5 := Lib.hid hj5
        have CF := Lib.hid (ckFlushOff hj5.lw.dk 0 (by decide) (off_can (off_use HON.out)))
        clear hj5 CZ HJ4
        go_wp2_with (go_at_call 19; refine CF.out.mono ?_)
        rintro e W6 ⟨rfl, hd6, hk6⟩
        have HJ6 := Lib.hid (HJ5.out.flOff hd6 hk6)
        clear hd6 hk6 CF HJ5
        have cc : Calls Try.prog 15 #[.pointer (some ⟨k, 0, none⟩), .agg #[.int .i64 0, .int .i64 0], .agg #[.int .i64 0, .int .i64 1]] W6 fun e w' => e = .returned (.int .i64 4) ∧ KeptIn (· < W6.heap.size) W6 w' := by
          have h := ckCopyNot HJ6.out.lw.dk ⟨0, 0⟩ ⟨0, 1⟩ (hasB_of (t := 0) (s := 0) (by decide) (by rw [HJ6.out.sl]; decide)) (hasB_of (t := 0) (s := 1) (by decide) (by rw [HJ6.out.sl]; decide)) 4 (by decide) ⟨#[]⟩ fun V hV => by
            have hV6 := HJ6.out.old hV
            exact ckReadDown hV6.lw.dk 0 0 0 2 (by decide) (by rw [hV6.sl]; decide) (by decide) (off_use (off_use HON.out))
          simp only [spV] at h
          exact h
        have CC := Lib.hid cc
        clear cc
        go_wp2_with (go_at_call 15; refine CC.out.mono ?_)
        rintro e W7 ⟨rfl, hk7⟩
        have HJ7 := Lib.hid (HJ6.out.old hk7)
        clear hk7 CC HJ6 HLJ HON
        have cl := dLoose _ _ _ _ _ _ _ _ (HJ7.out.lw.dk.isD 0 (by decide))
        rw [HJ7.out.d0] at cl
        have HME := Lib.hid fun i y => HJ7.out.meant (i := i) (y := y)
        have HLE := Lib.hid HJ7.out.ples
        generalize hks : places _ _ = ks at cl HME HLE
        obtain ⟨n, hn⟩ : ∃ n, ks.length = n := ⟨_, rfl⟩
        have CL : Hid (Calls Try.prog 26 #[.pointer (some ⟨d, 0, none⟩)] W7 fun e w' => ∃ a7 cap7, e = .returned (.slice a7 n cap7) ∧ KeptIn (· < W7.heap.size) W7 w' ∧ ∀ i y, ks[i]? = some y → ∃ g7, a7 = some ⟨g7, 0, none⟩ ∧ w'.cell? ⟨g7, i, none⟩ = some (.int .i64 y)) := Lib.hid (cl.mono (by
          rintro e w' ⟨v, rfl, hv, hkk⟩
          obtain ⟨a7, cap7, rfl, hsh⟩ := IntsAt.shape (B := W7.heap.size) hv
          refine ⟨a7, cap7, by rw [hn], hkk, fun i y hy => ?_⟩
          have hi := (List.getElem?_eq_some_iff.1 hy).1
          obtain ⟨g7, rfl, _, _, hc⟩ := hsh (by omega)
          exact ⟨g7, rfl, hc i y hy⟩))
        have HN := Lib.hid hn
        have hnI : (n : Int) ≤ 9223372036854775807 := by have := HLE.out; omega
        clear cl hks hn HLE
        go_wp2_with (go_at_call 26; refine CL.out.mono ?_)
        rintro e W9 ⟨a7, cap7, rfl, hk9, hc9⟩
        have HX9 := Lib.hid (HJ7.out.old hk9)
        have HC9 := Lib.hid hc9
        clear CL hk9 hc9
        go_wp2_with fail
        go_loopw [16] (fun c wr => ∃ (i : Nat) (V : World), V = wr ∧ V = W9 ∧ i ≤ n ∧ c = .int .i64 (i : Int)) (fun c _ => n - (RowKit.intOf c).toNat)
        case atStart => exact ⟨0, W9, rfl, rfl, Nat.zero_le _, rfl⟩
        case round =>
          obtain ⟨i, V, rfl, rfl, hi, rfl⟩ := hrel
          by_cases hlt : i < n
          · have b0 : (0 : Int) ≤ (i : Int) := by omega
            have b1 : (i : Int) < (n : Int) := by omega
            have hky := List.getElem?_eq_getElem (show i < ks.length by rw [HN.out]; exact hlt)
            obtain ⟨g7, rfl, hcy⟩ := HC9.out i _ hky
            obtain ⟨q, hq, hdq, y0, y1, hBq⟩ := HME.out i _ hky
            obtain ⟨y, hy⟩ : ∃ y, ks[i]'(by rw [HN.out]; exact hlt) = y := ⟨_, rfl⟩
            rw [hy] at hcy hdq y0 y1
            have cq := HX9.out.cell q hq
            rw [hBq] at cq
            have q0 : (0 : Int) ≤ (q : Int) := by omega
            have q1 : (q : Int) < 10 := by omega
            clear hky hy y0 y1 hq hBq
            go_wp2
            go_roundw
            case rel => exact ⟨i + 1, _, rfl, rfl, by omega, by go_num⟩
            case measure => simp [RowKit.intOf]; omega
          · obtain rfl : i = n := by omega
            have HF := Lib.hid HX9.out.lw.kept
            go_wp2_with fail
            go_ret
            exact ⟨rfl, HF.out⟩

end Go.Proofs.Ytmfnapbahkonhaa
