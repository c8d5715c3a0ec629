import Derived.Test.YtkgjmejgkffbdaaGreatDoorOpWL
import Derived.Test.YtkgjmejgkffbdaaGreatDoorHeL
import Derived.Deep.Cut
import Derived.Deep.CutRange
import Derived.Deep.CutBlock
import Derived.Deep.RegionLaw
import Derived.Deep.RegionHeld3
/- StoreOpens of layer 7: the walk: it returns true for every input and writes nothing that was there. -/
set_option linter.unusedVariables false
namespace Go.Proofs.YtkgjmejgkffbdaaGreatDoor
open Go.RowKit

attribute [local go_sem] eqTwo







set_option maxHeartbeats 16000000 in
set_option maxRecDepth 100000 in
theorem openW (s0 : ByteArray) (page sl ft chunk : Int) (w : World) (ws : s0.size ≤ maxLen) (wp : (Lit.int .i64 page).wf = true) (_ : True) (wc : (Lit.int .i64 chunk).wf = true) (hT : Tab w) :
    Calls Tryz.prog 4 #[.string s0, .int .i64 page, .agg #[.int .i64 sl, .int .i64 ft], .int .i64 chunk] w fun e w' => e = .returned (.bool true) ∧ KeptIn (· < w.heap.size) w w' := by
  obtain ⟨l, rfl⟩ : ∃ l : List UInt8, s0 = ⟨l.toArray⟩ := ⟨s0.data.toList, (Lib.mk_data s0).symm⟩
  have hl : l.length ≤ maxLen := ws
  have hlI : (l.length : Int) ≤ 9223372036854775807 := by unfold maxLen at hl; omega
  have hk0 : KeptIn (· < w.heap.size) w (w.alloc (.cells #[.int .i64 sl, .int .i64 ft] 33)) := (KeptIn.refl _ w).alloc (fun _ h => h) _
  have HT0 := Lib.hid (hT.old hk0)
  have HK0 := Lib.hid hk0
  have HL := Lib.hid hl
  clear ws hk0 hl
  have bp := bounds_i64 wp
  have bc := bounds_i64 wc
  clear wp wc
  by_cases hbig : 900 < l.length
  · have b1 : (900 : Int) < (l.length : Int) := by omega
    go_enter Tryz.func4, Tryz.ntmps4
    go_wp2_with fail
    refine (awake7 _ HT0.out).mono ?_
    rintro e w3 ⟨rfl, k3⟩
    go_wp2_with fail
    go_ret
    exact ⟨rfl, HK0.out.step k3⟩
  have b1 : ¬ (900 : Int) < (l.length : Int) := by omega
  obtain ⟨u, n, hu, hn, n3, hnI, hn2, hn256, hn16, hu56⟩ := op_nums (l := l) (by omega)
  have HN := Lib.hid (And.intro hu (And.intro hn (And.intro n3 (And.intro hn2 (And.intro hn256 (And.intro hn16 hu56))))))
  have hn3I : (n : Int) ≤ 3 := by omega
  clear hbig hu hn n3 hn2 hn256 hn16 hu56
  go_enter Tryz.func4, Tryz.ntmps4
  go_wp2_with fail
  refine (awake7 _ HT0.out).mono ?_
  rintro e w3 ⟨rfl, k3⟩
  have hbx : w3.heap[w.heap.size]? = some (.cells #[.int .i64 sl, .int .i64 ft] 33 (0, 0)) := (k3.block _ (by simp)).trans (heap_alloc_new w _)
  have HK3 := Lib.hid (And.intro (HK0.out.step k3) (And.intro hbx (HT0.out.old k3)))
  have hxlt : w.heap.size < w3.heap.size := (Array.getElem?_eq_some_iff.1 hbx).1
  have HXLT := Lib.hid hxlt
  have HXLT2 := Lib.hid (show w.heap.size ≤ w3.heap.size from Nat.le_of_lt hxlt)
  clear k3 hbx hxlt
  go_wp2_with fail
  refine (begNew w3).mono ?_
  rintro e V1 ⟨rfl, hP, hk1⟩
  have HC := Lib.hid (opOf u hk1 hP (Nat.le_refl _) HL.out HN.out.1)
  clear hP hk1
  go_wp2_with fail
  refine HC.out.mono ?_
  rintro e V2 ⟨d, s, b, rfl, hDv⟩
  obtain ⟨m, hm⟩ : ∃ m, w3.heap.size = m := ⟨_, rfl⟩
  have HDV := Lib.hid hDv
  have HC2 := Lib.hid (opOpen hDv (HK3.out.2.2.old hDv.kept) HN.out.2.1)
  have HM := Lib.hid hm
  rw [hm] at HDV HC2
  clear hDv HC hm
  go_wp2_with fail
  refine HC2.out.mono ?_
  rintro e V3 hR
  obtain ⟨ps, er, rfl, hDv3, hor⟩ := hR
  have HD3 := Lib.hid hDv3
  clear HC2 HDV hDv3
  go_upto_if 50 with fail
  go_cut [] from 51 (fun wx => Hid (Dv w3 d m s b 0 pw0 (secs l u) (fun _ => none) wx))
  case first =>
    as_aux_lemma =>
      rcases hor with ⟨hn2, rfl, rfl⟩ | ⟨hn2, hnew, rfl, rfl⟩ | ⟨hn2, o, j, st, pg, hnew, rfl, rfl, hsv⟩
      · have n2 : (n : Int) < 2 := by omega -- M:a
        go_wp2_with fail
        go_meet
        case rel => exact HD3
      · have n2 : ¬ (n : Int) < 2 := by omega -- M:b
        obtain ⟨⟨g0, r0, sl0, f0, c0⟩, ho⟩ : ∃ o, (newH (nth l 0) (nth l 1)).1 = o := ⟨_, rfl⟩
        obtain ⟨i0, hi⟩ : ∃ i, (newH (nth l 0) (nth l 1)).2.1 = i := ⟨_, rfl⟩
        have hnew' : newH (nth l 0) (nth l 1) = (⟨g0, r0, sl0, f0, c0⟩, i0, false) := by rw [← ho, ← hi, ← hnew]
        clear ho hi
        have hlen := (HN.out.2.2.2.1 hn2).1
        have l32 : (32 : Int) ≤ (l.length : Int) := by omega
        have l16 : (16 : Int) ≤ (l.length : Int) := by omega
        have e1 : (⟨l.toArray⟩ : ByteArray).extract 0 16 = ⟨(nth l 0).toArray⟩ := sub7 l 0 16 (by omega) (by omega)
        have e2 : (⟨l.toArray⟩ : ByteArray).extract 16 32 = ⟨(nth l 1).toArray⟩ := sub7 l 16 32 (by omega) (by omega)
        have hn0 : (nth l 0).length ≤ 65536 := by unfold nth; rw [List.length_take]; omega
        have hn1 : (nth l 1).length ≤ 65536 := by unfold nth; rw [List.length_take]; omega
        have HCN := Lib.hid fun V => r6Newest (nth l 0) (nth l 1) V hn0 hn1
        rw [hnew'] at HCN
        unfold New6 headV at HCN
        simp only at HCN
        obtain ⟨a0, ha0⟩ : ∃ a, nth l 0 = a := ⟨_, rfl⟩
        obtain ⟨a1, ha1⟩ : ∃ a, nth l 1 = a := ⟨_, rfl⟩
        rw [ha0] at e1 HCN
        rw [ha1] at e2 HCN
        clear hn0 hn1 hlen
        go_upto_region 11 with fail
        go_cut [13, 14, 15] from 57 (fun p i bb wx => ∃ hx : Nat, p = .pointer (some ⟨hx, 0, none⟩) ∧ i = .int .i64 i0 ∧ bb = .bool false ∧ Hid (KeptIn (· < V3.heap.size) V3 wx ∧ BoxH hx ⟨g0, r0, sl0, f0, c0⟩ wx))
        case first => -- M:nf
          go_wp2_with fail
          go_region_law (first | (go_simp; go_at_call 30; refine (HCN.out _).mono ?_; rintro e W2 ⟨rfl, k2⟩; first | (have hz : BoxH V3.heap.size noH W2 := (BoxH.new V3.drew noH).kept k2 (BoxH.new V3.drew noH).lt; obtain ⟨⟨z0, z1, z2, z3, z4⟩, z5, z6, z7, z8, z9⟩ := hz.zero) | skip))
          · have hb := BoxH.new W2 ⟨g0, r0, sl0, f0, c0⟩
            have hv : KeptIn (· < V3.heap.size) V3 (W2.alloc (.cells #[.int .u64 (g0 : Int), .int .i64 r0, .int .i64 sl0, .int .i64 f0, .int .i64 c0] 39)) := ((KeptIn.refl _ V3).drew.step k2).alloc (fun _ h => h) _
            have HX := Lib.hid (And.intro hv hb)
            clear hb hv k2 e1 e2
            go_wp2_with fail
            go_meet
            case rel => exact ⟨_, rfl, rfl, rfl, HX⟩
          · have hb := hz.put ⟨g0, r0, sl0, f0, c0⟩
            have hv := (((KeptIn.refl (· < V3.heap.size) V3).drew.alloc (fun _ h => h) _).step k2).put (x := V3.heap.size) (Nat.lt_irrefl _) ⟨g0, r0, sl0, f0, c0⟩
            have HX := Lib.hid (And.intro hv hb)
            clear hb hv k2 e1 e2 z0 z1 z2 z3 z4 z5 z6 z7 z8 z9 hz
            go_wp2_with fail
            go_meet
            case rel => exact ⟨_, rfl, rfl, rfl, HX⟩
        case rest =>
          obtain ⟨hx, rfl, rfl, rfl, HX⟩ := hcut
          have HDE := Lib.hid (HD3.out.old HX.out.1)
          clear HX HD3 e1 e2
          go_wp2_with fail
          go_meet
          case rel => exact HDE
      · have n2 : ¬ (n : Int) < 2 := by omega -- M:c
        obtain ⟨g0, r0, sl0, f0, c0⟩ := o
        have hnew' := hnew
        have hlen := (HN.out.2.2.2.1 hn2).1
        have l32 : (32 : Int) ≤ (l.length : Int) := by omega
        have l16 : (16 : Int) ≤ (l.length : Int) := by omega
        have e1 : (⟨l.toArray⟩ : ByteArray).extract 0 16 = ⟨(nth l 0).toArray⟩ := sub7 l 0 16 (by omega) (by omega)
        have e2 : (⟨l.toArray⟩ : ByteArray).extract 16 32 = ⟨(nth l 1).toArray⟩ := sub7 l 16 32 (by omega) (by omega)
        have hn0 : (nth l 0).length ≤ 65536 := by unfold nth; rw [List.length_take]; omega
        have hn1 : (nth l 1).length ≤ 65536 := by unfold nth; rw [List.length_take]; omega
        have HCN := Lib.hid fun V => r6Newest (nth l 0) (nth l 1) V hn0 hn1
        rw [hnew'] at HCN
        unfold New6 headV at HCN
        simp only at HCN
        obtain ⟨a0, ha0⟩ : ∃ a, nth l 0 = a := ⟨_, rfl⟩
        obtain ⟨a1, ha1⟩ : ∃ a, nth l 1 = a := ⟨_, rfl⟩
        rw [ha0] at e1 HCN
        rw [ha1] at e2 HCN
        clear hn0 hn1 hlen
        go_upto_region 11 with fail
        go_cut [13, 14, 15] from 57 (fun p i bb wx => ∃ hx : Nat, p = .pointer (some ⟨hx, 0, none⟩) ∧ i = .int .i64 (j : Int) ∧ bb = .bool true ∧ Hid (KeptIn (· < V3.heap.size) V3 wx ∧ BoxH hx ⟨g0, r0, sl0, f0, c0⟩ wx))
        case first => -- M:nf
          go_wp2_with fail
          go_region_law (first | (go_simp; go_at_call 30; refine (HCN.out _).mono ?_; rintro e W2 ⟨rfl, k2⟩; first | (have hz : BoxH V3.heap.size noH W2 := (BoxH.new V3.drew noH).kept k2 (BoxH.new V3.drew noH).lt; obtain ⟨⟨z0, z1, z2, z3, z4⟩, z5, z6, z7, z8, z9⟩ := hz.zero) | skip))
          · have hb := BoxH.new W2 ⟨g0, r0, sl0, f0, c0⟩
            have hv : KeptIn (· < V3.heap.size) V3 (W2.alloc (.cells #[.int .u64 (g0 : Int), .int .i64 r0, .int .i64 sl0, .int .i64 f0, .int .i64 c0] 39)) := ((KeptIn.refl _ V3).drew.step k2).alloc (fun _ h => h) _
            have HX := Lib.hid (And.intro hv hb)
            clear hb hv k2 e1 e2
            go_wp2_with fail
            go_meet
            case rel => exact ⟨_, rfl, rfl, rfl, HX⟩
          · have hb := hz.put ⟨g0, r0, sl0, f0, c0⟩
            have hv := (((KeptIn.refl (· < V3.heap.size) V3).drew.alloc (fun _ h => h) _).step k2).put (x := V3.heap.size) (Nat.lt_irrefl _) ⟨g0, r0, sl0, f0, c0⟩
            have HX := Lib.hid (And.intro hv hb)
            clear hb hv k2 e1 e2 z0 z1 z2 z3 z4 z5 z6 z7 z8 z9 hz
            go_wp2_with fail
            go_meet
            case rel => exact ⟨_, rfl, rfl, rfl, HX⟩
        case rest =>
          obtain ⟨V4, rfl⟩ : ∃ V4, V4 = wc := ⟨_, rfl⟩
          obtain ⟨hx, rfl, rfl, rfl, HX⟩ := hcut
          have hsv4 := hsv.old HX.out.1
          have HD4 := Lib.hid (HD3.out.old HX.out.1)
          have hb4 := HX.out.2
          have hcnt : ∃ c : Nat, cntS (noP n) 0 = c ∧ (c : Int) = (n : Int) - 1 ∧ wrap64 ((n : Int) - 1) = (c : Int) ∧ IntKind.i64.wrap ((n : Int) - 1) = (c : Int) := op_cnt hn2 HN.out.2.2.1
          obtain ⟨cf, hcf, hcf1, hcf2, hcf3⟩ := hcnt
          have HH := Lib.hid fun V (hk : KeptIn (· < V4.heap.size) V4 V) => headQ ⟨d, m, s, b, st, pg⟩ ⟨g0, r0, sl0, f0, c0⟩ j (noP n) V4 V hk (hsv4.isS.old hk)
          have HP := Lib.hid fun V (hk : KeptIn (· < V4.heap.size) V4 V) => stPages ⟨d, m, s, b, st, pg⟩ ⟨g0, r0, sl0, f0, c0⟩ j (noP n) V (hsv4.isS.old hk)
          have HFR := Lib.hid fun V (hk : KeptIn (· < V4.heap.size) V4 V) => stFree ⟨d, m, s, b, st, pg⟩ ⟨g0, r0, sl0, f0, c0⟩ j (noP n) V (hsv4.isS.old hk) (by rw [noP_length]; omega) (by rw [noP_length]; have := HN.out.2.2.1; omega)
          have HBF := Lib.hid fun V (hk : KeptIn (· < V4.heap.size) V4 V) => (show V.cell? ⟨hx, 0, none⟩ = some (.int .u64 (g0 : Int)) ∧ V.cell? ⟨hx, 1, none⟩ = some (.int .i64 r0) ∧ V.cell? ⟨hx, 2, none⟩ = some (.int .i64 sl0) ∧ V.cell? ⟨hx, 3, none⟩ = some (.int .i64 f0) ∧ V.cell? ⟨hx, 4, none⟩ = some (.int .i64 c0) from by
            have h9 := hb4.kept hk hb4.lt
            exact ⟨h9.c0, h9.c1, h9.c2, h9.c3, h9.c4⟩)
          have HSV := Lib.hid hsv4
          simp only [noP_length, hcf] at HP HFR
          unfold headV at HH
          simp only at HH HP HFR
          clear hsv4 hb4 hcf HX hsv HD3 e1 e2 hnew hnew' ha0 ha1 HCN
          go_upto_region 15 with fail
          go_cut [98] from 74 (fun bq wx => bq = .bool false ∧ Hid (KeptIn (· < V4.heap.size) V4 wx))
          case first => -- M:f15
            go_wp2_with fail
            go_region_held3 (fun w' => w'.cell? ⟨hx, 0, none⟩ = some (.int .u64 (g0 : Int)) ∧ w'.cell? ⟨hx, 1, none⟩ = some (.int .i64 r0) ∧ w'.cell? ⟨hx, 2, none⟩ = some (.int .i64 sl0) ∧ w'.cell? ⟨hx, 3, none⟩ = some (.int .i64 f0) ∧ w'.cell? ⟨hx, 4, none⟩ = some (.int .i64 c0))
              (first | exact HBF.out _ (KeptIn.refl _ _) | exact HBF.out _ (KeptIn.refl _ _).drew | exact HBF.out _ k5)
              (first | (go_at_call 24; refine (HH.out _ (KeptIn.refl _ _).drew).mono ?_; rintro e V5 ⟨rfl, k5⟩) | (go_at_call 25; refine (HP.out _ k5).mono ?_; rintro e _ ⟨rfl, rfl⟩) | (go_at_call 26; refine (HFR.out _ k5).mono ?_; rintro e _ ⟨rfl, rfl⟩))
            have HK5 := Lib.hid k5
            clear k5
            go_wp2_with fail
            go_meet
            case rel => exact ⟨rfl, HK5⟩
          case rest =>
            obtain ⟨rfl, HK5⟩ := hcut
            have k5 := HK5.out
            obtain ⟨V5, rfl⟩ : ∃ V5, V5 = wc := ⟨_, rfl⟩
            have HSV5 := Lib.hid (HSV.out.old k5)
            have HD5 := Lib.hid (HD4.out.old k5)
            clear HSV HD4 HBF HH HP HFR k5
            by_cases hq : holdsB n page = true
            · have hq12 : page = 1 ∨ page = 2 := by
                have h3 := HN.out.2.2.1
                unfold holdsB at hq
                simp only [Bool.and_eq_true, decide_eq_true_eq] at hq
                omega
              have hqn : page < (n : Int) := by
                unfold holdsB at hq
                simp only [Bool.and_eq_true, decide_eq_true_eq] at hq
                exact hq.2
              have hle := HN.out.2.2.2.2.1
              have h16 := HN.out.2.2.2.2.2.1
              clear hq
              rcases hq12 with rfl | rfl
              · as_aux_lemma => -- M:r1
                  obtain ⟨tx, htx⟩ : ∃ tx, (l.drop 256).take 256 = tx := ⟨_, rfl⟩
                  have hle2 : 512 ≤ l.length := by omega
                  have e3 : (⟨l.toArray⟩ : ByteArray).extract 256 512 = ⟨tx.toArray⟩ := by rw [← htx]; exact sub7 l 256 512 (by decide) hle2
                  have htl : tx.length ≤ 65536 := by rw [← htx, List.length_take]; omega
                  have CR := stReadDev (A := ⟨d, m, s, b, st, pg⟩) 1 tx V5 HSV5.out (HK3.out.2.2.old HD5.out.kept) rfl (by decide) (by rw [noP_length]; omega) (by rw [noP_st]; decide) ((nows_secs l u 1 (by omega)).trans htx)
                  have C5 := fun V => r5Read tx V htl
                  have lHI : (512 : Int) ≤ (l.length : Int) := by omega
                  have nQ : ¬ (n : Int) ≤ 1 := by omega
                  have nQ2 : decide ((n : Int) ≤ 1) = false := decide_eq_false nQ
                  obtain ⟨ps, hps0⟩ : ∃ ps, psR tx = ps := ⟨_, rfl⟩
                  obtain ⟨lv, hlv0⟩ : ∃ lv, lvR tx = lv := ⟨_, rfl⟩
                  obtain ⟨is, his⟩ : ∃ is, isN tx = is := ⟨_, rfl⟩
                  obtain ⟨k, hk0⟩ : ∃ k, ps.length = k := ⟨_, rfl⟩
                  unfold ReadL at CR
                  rw [his, hps0, hlv0] at CR
                  rw [hk0] at CR
                  simp only [his, hps0, hlv0, hk0] at C5
                  unfold leafV at CR C5
                  have CS : ∀ V a a2 ca c2, IsPs V a ps → IsPs V a2 ps → Calls Tryz.prog 20 #[.agg #[.int .i64 lv, .slice a k ca], .agg #[.int .i64 lv, .slice a2 k c2]] V fun e w' => e = .returned (.bool true) ∧ KeptIn (· < V.heap.size) V w' := fun V a a2 ca c2 h1 h2 => by
                    have := r5Same lv lv a a2 ca c2 ps ps V h1 h2
                    unfold leafV at this
                    rw [hk0, show decide (lv = lv ∧ ps = ps) = true from by simp] at this
                    exact this
                  have HC5 := Lib.hid C5; have HCS := Lib.hid CS
                  clear htx htl hle hle2 h16 C5 CS hps0 hlv0 his hk0 HSV5
                  cases is with
                  | true =>
                    have HCR := Lib.hid CR
                    clear CR
                    go_wp2_with fail
                    refine HCR.out.mono ?_
                    rintro e V6 ⟨a6, c6, rfl, hps6, k6⟩
                    have hk7 : KeptIn (· < V5.heap.size) V5 (V6.alloc (.cells #[.int .i64 lv, .slice a6 k c6] 47)) := k6.step ((KeptIn.refl _ V6).alloc (fun _ h => h) _)
                    have H7 := Lib.hid (And.intro hk7 (And.intro (BoxL.new V6 lv a6 k c6) (hps6.old ((KeptIn.refl _ V6).alloc (fun _ h => h) (.cells #[.int .i64 lv, .slice a6 k c6] 47)))))
                    clear hk7 hps6 k6 HCR
                    go_upto_region 18 with fail
                    generalize V6.alloc (.cells #[.int .i64 lv, .slice a6 k c6] 47) = X7 at *
                    generalize V6.heap.size = z at *
                    go_wp2_with fail
                    refine (HC5.out X7).mono ?_
                    rintro e V8 ⟨a8, c8, rfl, hps8, k8⟩
                    have hk9 : KeptIn (· < X7.heap.size) X7 (V8.alloc (.cells #[.int .i64 lv, .slice a8 k c8] 47)) := k8.step ((KeptIn.refl _ V8).alloc (fun _ h => h) _)
                    have H9 := Lib.hid (And.intro (H7.out.1.step hk9) (And.intro (H7.out.2.1.kept hk9 H7.out.2.1.lt) (And.intro (H7.out.2.2.old hk9) (And.intro (BoxL.new V8 lv a8 k c8) (hps8.old ((KeptIn.refl _ V8).alloc (fun _ h => h) (.cells #[.int .i64 lv, .slice a8 k c8] 47)))))))
                    clear hk9 hps8 k8 HC5 H7
                    go_upto_region 22 with fail
                    generalize V8.alloc (.cells #[.int .i64 lv, .slice a8 k c8] 47) = X9 at *
                    generalize V8.heap.size = z2 at *
                    have b0 := H9.out.2.1.c0; have b1 := H9.out.2.1.c1
                    have b2 := H9.out.2.2.2.1.c0; have b3 := H9.out.2.2.2.1.c1
                    have HC := Lib.hid (HCS.out X9 a6 a8 c6 c8 H9.out.2.2.1 H9.out.2.2.2.2)
                    have HD9 := Lib.hid (HD5.out.old H9.out.1)
                    clear H9 HCS HD5
                    go_wp2_with fail
                    refine HC.out.mono ?_
                    rintro e V10 ⟨rfl, k10⟩
                    have HDX := Lib.hid (HD9.out.old k10)
                    clear k10 HC HD9 b0 b1 b2 b3
                    go_wp2_with fail
                    go_meet
                    case rel => exact HDX
                  | false =>
                    have HCR := Lib.hid CR
                    clear CR
                    go_wp2_with fail
                    refine HCR.out.mono ?_
                    rintro e V6 ⟨a6, c6, rfl, hps6, k6⟩
                    have hk7 : KeptIn (· < V5.heap.size) V5 (V6.alloc (.cells #[.int .i64 lv, .slice a6 k c6] 47)) := k6.step ((KeptIn.refl _ V6).alloc (fun _ h => h) _)
                    have H7 := Lib.hid (And.intro hk7 (And.intro (BoxL.new V6 lv a6 k c6) (hps6.old ((KeptIn.refl _ V6).alloc (fun _ h => h) (.cells #[.int .i64 lv, .slice a6 k c6] 47)))))
                    clear hk7 hps6 k6 HCR
                    go_upto_region 18 with fail
                    generalize V6.alloc (.cells #[.int .i64 lv, .slice a6 k c6] 47) = X7 at *
                    generalize V6.heap.size = z at *
                    go_wp2_with fail
                    refine (HC5.out X7).mono ?_
                    rintro e V8 ⟨a8, c8, rfl, hps8, k8⟩
                    have hk9 : KeptIn (· < X7.heap.size) X7 (V8.alloc (.cells #[.int .i64 lv, .slice a8 k c8] 47)) := k8.step ((KeptIn.refl _ V8).alloc (fun _ h => h) _)
                    have H9 := Lib.hid (And.intro (H7.out.1.step hk9) (And.intro (H7.out.2.1.kept hk9 H7.out.2.1.lt) (And.intro (H7.out.2.2.old hk9) (And.intro (BoxL.new V8 lv a8 k c8) (hps8.old ((KeptIn.refl _ V8).alloc (fun _ h => h) (.cells #[.int .i64 lv, .slice a8 k c8] 47)))))))
                    clear hk9 hps8 k8 HC5 H7
                    go_upto_region 22 with fail
                    generalize V8.alloc (.cells #[.int .i64 lv, .slice a8 k c8] 47) = X9 at *
                    generalize V8.heap.size = z2 at *
                    have b0 := H9.out.2.1.c0; have b1 := H9.out.2.1.c1
                    have b2 := H9.out.2.2.2.1.c0; have b3 := H9.out.2.2.2.1.c1
                    have HC := Lib.hid (HCS.out X9 a6 a8 c6 c8 H9.out.2.2.1 H9.out.2.2.2.2)
                    have HD9 := Lib.hid (HD5.out.old H9.out.1)
                    clear H9 HCS HD5
                    go_wp2_with fail
                    refine HC.out.mono ?_
                    rintro e V10 ⟨rfl, k10⟩
                    have HDX := Lib.hid (HD9.out.old k10)
                    clear k10 HC HD9 b0 b1 b2 b3
                    go_wp2_with fail
                    go_meet
                    case rel => exact HDX
              · as_aux_lemma => -- M:r2
                  obtain ⟨tx, htx⟩ : ∃ tx, (l.drop 512).take 256 = tx := ⟨_, rfl⟩
                  have hle2 : 768 ≤ l.length := by omega
                  have e3 : (⟨l.toArray⟩ : ByteArray).extract 512 768 = ⟨tx.toArray⟩ := by rw [← htx]; exact sub7 l 512 768 (by decide) hle2
                  have htl : tx.length ≤ 65536 := by rw [← htx, List.length_take]; omega
                  have CR := stReadDev (A := ⟨d, m, s, b, st, pg⟩) 2 tx V5 HSV5.out (HK3.out.2.2.old HD5.out.kept) rfl (by decide) (by rw [noP_length]; omega) (by rw [noP_st]; decide) ((nows_secs l u 2 (by omega)).trans htx)
                  have C5 := fun V => r5Read tx V htl
                  have lHI : (768 : Int) ≤ (l.length : Int) := by omega
                  have nQ : ¬ (n : Int) ≤ 2 := by omega
                  have nQ2 : decide ((n : Int) ≤ 2) = false := decide_eq_false nQ
                  obtain ⟨ps, hps0⟩ : ∃ ps, psR tx = ps := ⟨_, rfl⟩
                  obtain ⟨lv, hlv0⟩ : ∃ lv, lvR tx = lv := ⟨_, rfl⟩
                  obtain ⟨is, his⟩ : ∃ is, isN tx = is := ⟨_, rfl⟩
                  obtain ⟨k, hk0⟩ : ∃ k, ps.length = k := ⟨_, rfl⟩
                  unfold ReadL at CR
                  rw [his, hps0, hlv0] at CR
                  rw [hk0] at CR
                  simp only [his, hps0, hlv0, hk0] at C5
                  unfold leafV at CR C5
                  have CS : ∀ V a a2 ca c2, IsPs V a ps → IsPs V a2 ps → Calls Tryz.prog 20 #[.agg #[.int .i64 lv, .slice a k ca], .agg #[.int .i64 lv, .slice a2 k c2]] V fun e w' => e = .returned (.bool true) ∧ KeptIn (· < V.heap.size) V w' := fun V a a2 ca c2 h1 h2 => by
                    have := r5Same lv lv a a2 ca c2 ps ps V h1 h2
                    unfold leafV at this
                    rw [hk0, show decide (lv = lv ∧ ps = ps) = true from by simp] at this
                    exact this
                  have HC5 := Lib.hid C5; have HCS := Lib.hid CS
                  clear htx htl hle hle2 h16 C5 CS hps0 hlv0 his hk0 HSV5
                  cases is with
                  | true =>
                    have HCR := Lib.hid CR
                    clear CR
                    go_wp2_with fail
                    refine HCR.out.mono ?_
                    rintro e V6 ⟨a6, c6, rfl, hps6, k6⟩
                    have hk7 : KeptIn (· < V5.heap.size) V5 (V6.alloc (.cells #[.int .i64 lv, .slice a6 k c6] 47)) := k6.step ((KeptIn.refl _ V6).alloc (fun _ h => h) _)
                    have H7 := Lib.hid (And.intro hk7 (And.intro (BoxL.new V6 lv a6 k c6) (hps6.old ((KeptIn.refl _ V6).alloc (fun _ h => h) (.cells #[.int .i64 lv, .slice a6 k c6] 47)))))
                    clear hk7 hps6 k6 HCR
                    go_upto_region 18 with fail
                    generalize V6.alloc (.cells #[.int .i64 lv, .slice a6 k c6] 47) = X7 at *
                    generalize V6.heap.size = z at *
                    go_wp2_with fail
                    refine (HC5.out X7).mono ?_
                    rintro e V8 ⟨a8, c8, rfl, hps8, k8⟩
                    have hk9 : KeptIn (· < X7.heap.size) X7 (V8.alloc (.cells #[.int .i64 lv, .slice a8 k c8] 47)) := k8.step ((KeptIn.refl _ V8).alloc (fun _ h => h) _)
                    have H9 := Lib.hid (And.intro (H7.out.1.step hk9) (And.intro (H7.out.2.1.kept hk9 H7.out.2.1.lt) (And.intro (H7.out.2.2.old hk9) (And.intro (BoxL.new V8 lv a8 k c8) (hps8.old ((KeptIn.refl _ V8).alloc (fun _ h => h) (.cells #[.int .i64 lv, .slice a8 k c8] 47)))))))
                    clear hk9 hps8 k8 HC5 H7
                    go_upto_region 22 with fail
                    generalize V8.alloc (.cells #[.int .i64 lv, .slice a8 k c8] 47) = X9 at *
                    generalize V8.heap.size = z2 at *
                    have b0 := H9.out.2.1.c0; have b1 := H9.out.2.1.c1
                    have b2 := H9.out.2.2.2.1.c0; have b3 := H9.out.2.2.2.1.c1
                    have HC := Lib.hid (HCS.out X9 a6 a8 c6 c8 H9.out.2.2.1 H9.out.2.2.2.2)
                    have HD9 := Lib.hid (HD5.out.old H9.out.1)
                    clear H9 HCS HD5
                    go_wp2_with fail
                    refine HC.out.mono ?_
                    rintro e V10 ⟨rfl, k10⟩
                    have HDX := Lib.hid (HD9.out.old k10)
                    clear k10 HC HD9 b0 b1 b2 b3
                    go_wp2_with fail
                    go_meet
                    case rel => exact HDX
                  | false =>
                    have HCR := Lib.hid CR
                    clear CR
                    go_wp2_with fail
                    refine HCR.out.mono ?_
                    rintro e V6 ⟨a6, c6, rfl, hps6, k6⟩
                    have hk7 : KeptIn (· < V5.heap.size) V5 (V6.alloc (.cells #[.int .i64 lv, .slice a6 k c6] 47)) := k6.step ((KeptIn.refl _ V6).alloc (fun _ h => h) _)
                    have H7 := Lib.hid (And.intro hk7 (And.intro (BoxL.new V6 lv a6 k c6) (hps6.old ((KeptIn.refl _ V6).alloc (fun _ h => h) (.cells #[.int .i64 lv, .slice a6 k c6] 47)))))
                    clear hk7 hps6 k6 HCR
                    go_upto_region 18 with fail
                    generalize V6.alloc (.cells #[.int .i64 lv, .slice a6 k c6] 47) = X7 at *
                    generalize V6.heap.size = z at *
                    go_wp2_with fail
                    refine (HC5.out X7).mono ?_
                    rintro e V8 ⟨a8, c8, rfl, hps8, k8⟩
                    have hk9 : KeptIn (· < X7.heap.size) X7 (V8.alloc (.cells #[.int .i64 lv, .slice a8 k c8] 47)) := k8.step ((KeptIn.refl _ V8).alloc (fun _ h => h) _)
                    have H9 := Lib.hid (And.intro (H7.out.1.step hk9) (And.intro (H7.out.2.1.kept hk9 H7.out.2.1.lt) (And.intro (H7.out.2.2.old hk9) (And.intro (BoxL.new V8 lv a8 k c8) (hps8.old ((KeptIn.refl _ V8).alloc (fun _ h => h) (.cells #[.int .i64 lv, .slice a8 k c8] 47)))))))
                    clear hk9 hps8 k8 HC5 H7
                    go_upto_region 22 with fail
                    generalize V8.alloc (.cells #[.int .i64 lv, .slice a8 k c8] 47) = X9 at *
                    generalize V8.heap.size = z2 at *
                    have b0 := H9.out.2.1.c0; have b1 := H9.out.2.1.c1
                    have b2 := H9.out.2.2.2.1.c0; have b3 := H9.out.2.2.2.1.c1
                    have HC := Lib.hid (HCS.out X9 a6 a8 c6 c8 H9.out.2.2.1 H9.out.2.2.2.2)
                    have HD9 := Lib.hid (HD5.out.old H9.out.1)
                    clear H9 HCS HD5
                    go_wp2_with fail
                    refine HC.out.mono ?_
                    rintro e V10 ⟨rfl, k10⟩
                    have HDX := Lib.hid (HD9.out.old k10)
                    clear k10 HC HD9 b0 b1 b2 b3
                    go_wp2_with fail
                    go_meet
                    case rel => exact HDX
            · have hq' : holdsB n page = false := by simpa using hq -- M:ro
              have HRO := stReadOut ⟨d, m, s, b, st, pg⟩ ⟨g0, r0, sl0, f0, c0⟩ j (noP n) page V5 HSV5.out.isS (by rw [noP_length]; exact hq')
              unfold NoL leafV at HRO
              replace HRO := Lib.hid HRO
              clear hq
              go_wp2_with fail
              refine HRO.out.mono ?_
              rintro e V6 ⟨rfl, k6⟩
              have HD6 := Lib.hid ((HD5.out.old k6).old ((KeptIn.refl _ V6).alloc (fun _ h => h) (.cells #[.int .i64 0, .slice none 0 0] 47)))
              clear HD5 k6 HRO HSV5
              have hor2 : page < 1 ∨ (n : Int) ≤ page := by
                unfold holdsB at hq'
                simp only [Bool.and_eq_false_iff, decide_eq_false_iff_not] at hq'
                omega
              by_cases hp1 : page < 1
              · go_wp2_with fail
                go_meet
                case rel => exact HD6
              · have hp2 : (n : Int) ≤ page := by omega
                go_wp2_with fail
                go_meet
                case rel => exact HD6
  case rest =>
    as_aux_lemma => -- M:rest
      obtain ⟨V, rfl⟩ : ∃ V, V = wc := ⟨_, rfl⟩
      have hbx := (hcut.out.kept.block w.heap.size HXLT.out).trans HK3.out.2.1
      have c0 : V.cell? ⟨w.heap.size, 0, none⟩ = some (.int .i64 sl) := by simp [World.cell?, hbx]
      have c1 : V.cell? ⟨w.heap.size, 1, none⟩ = some (.int .i64 ft) := by simp [World.cell?, hbx]
      have hT := HK3.out.2.2.old hcut.out.kept
      have HCF := Lib.hid (opFmt hcut.out hT HN.out.2.1 sl ft chunk)
      have hnn := HN.out.2.2.1
      clear hbx hT hcut hor HD3
      go_wp2_with fail
      refine HCF.out.mono ?_
      rintro e V1 hR
      obtain ⟨ps, er, rfl, hk1, hor⟩ := hR
      have hbx := (hk1.block w.heap.size HXLT.out).trans HK3.out.2.1
      have d0 : V1.cell? ⟨w.heap.size, 0, none⟩ = some (.int .i64 sl) := by simp [World.cell?, hbx]
      have d1 : V1.cell? ⟨w.heap.size, 1, none⟩ = some (.int .i64 ft) := by simp [World.cell?, hbx]
      have hkX : KeptIn (· < V1.heap.size) V1 (V1.alloc (.cells #[.int .u64 1, .int .i64 0, .int .i64 sl, .int .i64 ft, .int .i64 chunk] 39)) := (KeptIn.refl _ V1).alloc (fun _ h => h) _
      have hbh : BoxH V1.heap.size ⟨1, 0, sl, ft, chunk⟩ (V1.alloc (.cells #[.int .u64 1, .int .i64 0, .int .i64 sl, .int .i64 ft, .int .i64 chunk] 39)) := BoxH.new V1 ⟨1, 0, sl, ft, chunk⟩
      have HX1 := Lib.hid (And.intro hk1 (And.intro hkX hbh))
      clear hbx hkX hbh c0 c1 hk1 HCF
      go_upto_region 26 with fail
      clear d0 d1
      generalize V1.alloc (.cells #[.int .u64 1, .int .i64 0, .int .i64 sl, .int .i64 ft, .int .i64 chunk] 39) = X1 at *
      have HZ : Hid (V1.heap.size = V1.heap.size) := Lib.hid rfl
      obtain ⟨z, hz⟩ : ∃ z, V1.heap.size = z := ⟨_, rfl⟩
      have HZ2 := Lib.hid hz
      rw [hz] at HX1 ⊢
      clear hz HZ
      obtain ⟨gd, hgd⟩ : ∃ gd, goodH ⟨1, 0, sl, ft, chunk⟩ = gd := ⟨_, rfl⟩
      obtain ⟨bb, hbb⟩ : ∃ bb, (decide (n < 2) || !gd) = bb := ⟨_, rfl⟩
      have HGD := Lib.hid (And.intro hgd hbb)
      clear hgd hbb
      go_cut [159] from 153 to 159 (fun bq wx => bq = .bool bb ∧ Hid (KeptIn (· < X1.heap.size) X1 wx))
      case first => -- M:g26
        by_cases h2 : n < 2
        · have n2 : (n : Int) < 2 := by omega
          have hb : bb = true := by rw [← HGD.out.2, decide_eq_true h2, Bool.true_or]
          subst hb
          clear h2
          go_wp2_with fail
          go_meet
          case rel => exact ⟨rfl, Lib.hid (.refl _ _)⟩
        · have n2 : ¬ (n : Int) < 2 := by omega
          have hb : bb = !gd := by rw [← HGD.out.2, decide_eq_false h2, Bool.false_or]
          have CG := r6Good ⟨1, 0, sl, ft, chunk⟩ X1
          rw [HGD.out.1] at CG
          unfold headV at CG
          have HCG := Lib.hid CG
          have z0 := HX1.out.2.2.c0; have z1 := HX1.out.2.2.c1; have z2 := HX1.out.2.2.c2; have z3 := HX1.out.2.2.c3; have z4 := HX1.out.2.2.c4
          simp only at z0 z1 z2 z3 z4
          have HB := Lib.hid hb
          clear h2 hb CG
          go_wp2_with fail
          refine HCG.out.mono ?_
          rintro e w' ⟨rfl, hk⟩
          have HK := Lib.hid hk
          clear hk HCG z0 z1 z2 z3 z4
          go_wp2_with fail
          go_meet
          case rel => exact ⟨by rw [HB.out], HK⟩
      case rest =>
        obtain ⟨X2, rfl⟩ : ∃ X2, X2 = wc := ⟨_, rfl⟩
        obtain ⟨rfl, HK2⟩ := hcut
        go_upto_if 159 with fail
        go_cut [] from 160 to 188 (fun wx => Hid (KeptIn (· < X2.heap.size) X2 wx))
        case first => -- M:g29
          rcases hor with ⟨hb, rfl, rfl⟩ | ⟨h2, hg, rfl, st, pg, p', rfl, hsv⟩
          · have hbad : bb = true := by
              rw [← HGD.out.2]
              rcases hb with h2 | hg
              · rw [decide_eq_true h2, Bool.true_or]
              · rw [← HGD.out.1, hg, Bool.not_false, Bool.or_true]
            subst hbad
            clear hb
            go_wp2_with fail
            go_meet
            case rel => exact Lib.hid (.refl _ _)
          · have hbad : bb = false := by rw [← HGD.out.2, ← HGD.out.1, hg, decide_eq_false (by omega)]; rfl
            subst hbad
            have kX : KeptIn (· < V1.heap.size) V1 X2 := by
              have h1 : KeptIn (· < V1.heap.size) V1 X1 := by rw [HZ2.out]; exact HX1.out.2.1
              exact h1.trans (HK2.out.mono fun k hk => Nat.lt_of_lt_of_le hk h1.size)
            have hsv2 := hsv.old kX
            have hbh2 := HX1.out.2.2.kept HK2.out HX1.out.2.2.lt
            have hl16 : ∀ x ∈ formS (secs l u) (fun _ => none) ⟨1, 0, sl, ft, chunk⟩, x.length = 16 := hsv2.isD.len
            have hft := form_take (secs l u) (fun _ => none) ⟨1, 0, sl, ft, chunk⟩ (by rw [secs_length]; have := HN.out.2.2.2.1 h2; omega) hl16
            have hfl : 32 ≤ (formS (secs l u) (fun _ => none) ⟨1, 0, sl, ft, chunk⟩).flatten.length := by
              have h9 := congrArg List.length hft
              rw [List.length_take, List.length_append, bytesH_length, show zeroS.length = 16 from rfl] at h9
              omega
            obtain ⟨FL, hFL⟩ : ∃ FL, (formS (secs l u) (fun _ => none) ⟨1, 0, sl, ft, chunk⟩).flatten = FL := ⟨_, rfl⟩
            obtain ⟨HB, hHB⟩ : ∃ HB, bytesH ⟨1, 0, sl, ft, chunk⟩ = HB := ⟨_, rfl⟩
            obtain ⟨Z, hZ⟩ : ∃ Z, zeroS = Z := ⟨_, rfl⟩
            have lH : HB.length = 16 := by rw [← hHB]; exact bytesH_length _
            have lZ : Z.length = 16 := by rw [← hZ]; rfl
            rw [hFL, hHB, hZ] at hft
            rw [hFL] at hfl
            have e4 : (⟨FL.toArray⟩ : ByteArray).extract 0 32 = ⟨(HB ++ Z).toArray⟩ := by rw [← hft]; exact sub7 FL 0 32 (by decide) hfl
            have lF : (32 : Int) ≤ (FL.length : Int) := by omega
            have CH := fun V' (hk : KeptIn (· < X2.heap.size) X2 V') => headQ ⟨d, m, s, b, st, pg⟩ ⟨1, 0, sl, ft, chunk⟩ 0 (noP n) X2 V' hk (hsv2.isS.old hk)
            have CI : ∀ V', KeptIn (· < X2.heap.size) X2 V' → Calls Tryz.prog 33 #[.pointer (some ⟨d, 0, none⟩)] V' fun e w' => e = .returned (.string ⟨FL.toArray⟩) ∧ KeptIn (· < X2.heap.size) X2 w' ∧ KeptIn (· < V'.heap.size) V' w' := fun V' hk => by
              have := dImage d m s b 0 _ _ V' (hsv2.old hk).isD
              rw [hFL] at this
              refine this.mono ?_
              rintro e w' ⟨rfl, h9⟩
              exact ⟨rfl, hk.step h9, h9⟩
            have CB : ∀ V', KeptIn (· < X2.heap.size) X2 V' → Calls Tryz.prog 34 #[.agg #[.int .u64 1, .int .i64 0, .int .i64 sl, .int .i64 ft, .int .i64 chunk]] V' fun e w' => e = .returned (.string ⟨HB.toArray⟩) ∧ KeptIn (· < X2.heap.size) X2 w' ∧ KeptIn (· < V'.heap.size) V' w' := fun V' hk => by
              have := r6Bytes ⟨1, 0, sl, ft, chunk⟩ hg V'
              rw [hHB] at this
              refine Calls.mono this ?_
              rintro e w' ⟨rfl, h9⟩
              exact ⟨rfl, hk.step h9, h9⟩
            have hall : ∀ V', KeptIn (· < X2.heap.size) X2 V' → V'.cell? ⟨z, 0, none⟩ = some (.int .u64 1) ∧ V'.cell? ⟨z, 1, none⟩ = some (.int .i64 0) ∧ V'.cell? ⟨z, 2, none⟩ = some (.int .i64 sl) ∧ V'.cell? ⟨z, 3, none⟩ = some (.int .i64 ft) ∧ V'.cell? ⟨z, 4, none⟩ = some (.int .i64 chunk) := fun V' hk => by
              have h9 := hbh2.kept hk hbh2.lt
              exact ⟨h9.c0, h9.c1, h9.c2, h9.c3, h9.c4⟩
            obtain ⟨ib, hib, y0, y1, y2⟩ := info_parts (show (Tryz.prog.info? 5).map (fun i => (i.zero, i.size, i.bytes)) = some (some (.int .u8 0), 1, 1) by kernel_rfl)
            have hmk : ∀ V, (Instr.makeSlice 77 (.int .i64 16) (.int .i64 16)).run Tryz.prog V = .ok (.slice (some ⟨V.heap.size, 0, none⟩) 16 16) (V.alloc (.cells (madeCells (Value.int .u8 0).cells (16 * 1)) 5)) := fun V => by
              have := run_make (P := Tryz.prog) V 77 5 ib _ Tryz.underlying77 hib y0 .i64 .i64 (16 : Int) (16 : Int) (by omega) (Int.le_refl _) (by rw [y2]; omega) (by omega)
              rw [y1] at this
              exact this
            obtain ⟨CZ, hCZ⟩ : ∃ CZ, madeCells (Value.int .u8 0).cells (16 * 1) = CZ := ⟨_, rfl⟩
            rw [hCZ] at hmk
            have hHas : ∀ V : World, Has (V.alloc (.cells CZ 5)) V.heap.size Z := fun V => by
              rw [← hCZ, ← hZ]
              intro i b hb
              have h9 := heap_alloc_new V (.cells (madeCells (Value.int .u8 0).cells (16 * 1)) 5)
              have hi : i < 16 := (List.getElem?_eq_some_iff.1 hb).1
              have hb0 : b = 0 := by
                have := List.getElem?_replicate (n := 16) (a := (0 : UInt8)) (i := i)
                have e9 : zeroS = List.replicate 16 0 := by decide
                rw [e9, this, if_pos hi] at hb
                exact (Option.some.inj hb).symm
              subst hb0
              refine ⟨?_, frozen_of_row _ _ _ _ _ h9⟩
              rw [cell_of_row _ _ _ _ _ _ h9]
              exact made_u8_at i hi
            have hcv : ∀ (V : World) (g : Nat), Has V g Z → (convert 77 9 (.slice (some ⟨g, 0, none⟩) 16 16)).run Tryz.prog V = .ok (.string ⟨Z.toArray⟩) V := fun V g h9 => by
              have := conv_back Z g 16 V h9
              rwa [lZ] at this
            have hjn : (⟨HB.toArray⟩ : ByteArray) ++ ⟨Z.toArray⟩ = ⟨(HB ++ Z).toArray⟩ := joinB HB Z
            unfold headV at CH
            simp only at CH
            have HH := Lib.hid CH; have HCI := Lib.hid CI; have HCB := Lib.hid CB; have HALL := Lib.hid hall
            obtain ⟨b0, b1, b2, b3, b4⟩ := HALL.out X2 (KeptIn.refl _ _)
            clear CH CI CB hall hsv2 hbh2 hl16 hft hfl hFL hHB hZ kX hsv HK2 HX1 HZ2 HGD h2 hg y0 y1 y2 hib hCZ
            go_wp2_with fail
            refine wp_region_held_drew (S := fun w' => w'.cell? ⟨z, 0, none⟩ = some (.int .u64 1) ∧ w'.cell? ⟨z, 1, none⟩ = some (.int .i64 0) ∧ w'.cell? ⟨z, 2, none⟩ = some (.int .i64 sl) ∧ w'.cell? ⟨z, 3, none⟩ = some (.int .i64 ft) ∧ w'.cell? ⟨z, 4, none⟩ = some (.int .i64 chunk)) (by kernel_rfl) (HALL.out _ (KeptIn.refl _ X2).drew) (fun hHeld => ?_)
            refine wpAnyH_take (i := 0) (oi := { dst := some 166, op := Op.move (Operand.tmp 21), type := 28, pos := "law.go:156", after := #[], guard := none }) (v := ?_) rfl (by kernel_rfl) (by kernel_rfl) (by kernel_rfl) (fun _ _ _ h => h) (Or.inl ⟨by rfl, ?_⟩) (by assumption) ?_
            rotate_left
            · intro w hSw; (try dsimp only at hSw); go_simp; (try with_reducible rfl)
            try simp only [Act.put, List.setIfInBounds_toArray, List.set_cons_zero, List.set_cons_succ]
            refine wpAnyH_take (i := 1) (oi := { dst := some 167, op := Op.binOp BinOp.neq 28 (Operand.tmp 166) (Operand.const (Value.int IntKind.i64 0)) 28, type := 4, pos := "law.go:156", after := #[{ on := 0, ground := Ground.data }], guard := none }) (v := ?_) rfl (by kernel_rfl) (by kernel_rfl) (by kernel_rfl) (fun _ _ _ h => h) (Or.inl ⟨by rfl, ?_⟩) (by assumption) ?_
            rotate_left
            · intro w hSw; (try dsimp only at hSw); go_simp; (try with_reducible rfl)
            try simp only [Act.put, List.setIfInBounds_toArray, List.set_cons_zero, List.set_cons_succ]
            refine wpAnyH_take (i := 2) (oi := { dst := some 168, op := Op.move (Operand.tmp 167), type := 4, pos := "law.go:156", after := #[{ on := 1, ground := Ground.data }], guard := none }) (v := ?_) rfl (by kernel_rfl) (by kernel_rfl) (by kernel_rfl) (fun _ _ _ h => h) (Or.inl ⟨by rfl, ?_⟩) (by assumption) ?_
            rotate_left
            · intro w hSw; (try dsimp only at hSw); go_simp; (try with_reducible rfl)
            try simp only [Act.put, List.setIfInBounds_toArray, List.set_cons_zero, List.set_cons_succ]
            refine wpAnyH_take (i := 3) (oi := { dst := some 169, op := Op.move (Operand.tmp 20), type := 27, pos := "law.go:156", after := #[{ on := 2, ground := Ground.guard }], guard := some (2, false) }) (v := ?_) rfl (by kernel_rfl) (by kernel_rfl) (by kernel_rfl) (fun _ _ _ h => h) (Or.inl ⟨by rfl, ?_⟩) (by assumption) ?_
            rotate_left
            · intro w hSw; (try dsimp only at hSw); go_simp; (try with_reducible rfl)
            try simp only [Act.put, List.setIfInBounds_toArray, List.set_cons_zero, List.set_cons_succ]
            refine wpAnyH_take (i := 4) (oi := { dst := some 170, op := Op.binOp BinOp.eql 27 (Operand.tmp 169) (Operand.const (Value.pointer none)) 27, type := 4, pos := "law.go:156", after := #[{ on := 3, ground := Ground.data }, { on := 2, ground := Ground.guard }], guard := some (2, false) }) (v := ?_) rfl (by kernel_rfl) (by kernel_rfl) (by kernel_rfl) (fun _ _ _ h => h) (Or.inl ⟨by rfl, ?_⟩) (by assumption) ?_
            rotate_left
            · intro w hSw; (try dsimp only at hSw); go_simp; (try with_reducible rfl)
            try simp only [Act.put, List.setIfInBounds_toArray, List.set_cons_zero, List.set_cons_succ]
            refine wpAnyH_take (i := 5) (oi := { dst := some 171, op := Op.pick (Operand.tmp 168) (Operand.const (Value.bool true)) (Operand.tmp 170), type := 4, pos := "law.go:156", after := #[{ on := 2, ground := Ground.data }, { on := 4, ground := Ground.data }], guard := none }) (v := ?_) rfl (by kernel_rfl) (by kernel_rfl) (by kernel_rfl) (fun _ _ _ h => h) (Or.inl ⟨by rfl, ?_⟩) (by assumption) ?_
            rotate_left
            · intro w hSw; (try dsimp only at hSw); go_simp; (try with_reducible rfl)
            try simp only [Act.put, List.setIfInBounds_toArray, List.set_cons_zero, List.set_cons_succ]
            refine wpAnyH_take (i := 6) (oi := { dst := some 172, op := Op.move (Operand.tmp 171), type := 4, pos := "law.go:156", after := #[{ on := 5, ground := Ground.data }, { on := 2, ground := Ground.chain }], guard := none }) (v := ?_) rfl (by kernel_rfl) (by kernel_rfl) (by kernel_rfl) (fun _ _ _ h => h) (Or.inl ⟨by rfl, ?_⟩) (by assumption) ?_
            rotate_left
            · intro w hSw; (try dsimp only at hSw); go_simp; (try with_reducible rfl)
            try simp only [Act.put, List.setIfInBounds_toArray, List.set_cons_zero, List.set_cons_succ]
            refine wpAnyH_take (i := 7) (oi := { dst := some 173, op := Op.move (Operand.tmp 20), type := 27, pos := "law.go:156", after := #[{ on := 6, ground := Ground.guard }], guard := some (6, false) }) (v := ?_) rfl (by kernel_rfl) (by kernel_rfl) (by kernel_rfl) (fun _ _ _ h => h) (Or.inl ⟨by rfl, ?_⟩) (by assumption) ?_
            rotate_left
            · intro w hSw; (try dsimp only at hSw); go_simp; (try with_reducible rfl)
            try simp only [Act.put, List.setIfInBounds_toArray, List.set_cons_zero, List.set_cons_succ]
            refine wpAnyH_take (i := 9) (oi := { dst := some 175, op := Op.load 39 (Operand.tmp 22), type := 39, pos := "law.go:156", after := #[{ on := 6, ground := Ground.guard }], guard := some (6, false) }) (v := ?_) rfl (by kernel_rfl) (by kernel_rfl) (by kernel_rfl) (fun _ _ _ h => h) (Or.inl ⟨by rfl, ?_⟩) (by assumption) ?_
            rotate_left
            · intro w hSw; (try dsimp only at hSw); go_simp; (try with_reducible rfl)
            try simp only [Act.put, List.setIfInBounds_toArray, List.set_cons_zero, List.set_cons_succ]
            refine wpAnyH_ready (rs := [8]) (by kernel_rfl) (by simp) ?_
            refine AllReadyH.cons (o := { dst := some 174, op := Op.call { callee := Callee.value (Operand.func 24), args := #[Operand.tmp 173], argTypes := #[27] }, type := 39, pos := "law.go:156", after := #[{ on := 7, ground := Ground.data }, { on := 6, ground := Ground.chain }, { on := 6, ground := Ground.guard }], guard := some (6, false) }) rfl (fun K hK => ?_) ?_
            · go_simp
              go_at_call 24
              refine (HH.out _ (KeptIn.refl _ _).drew).mono ?_
              rintro e V5 ⟨rfl, k5⟩
              refine hK.out _ _ ?_ (fun hHeld2 => ?_)
              · (try dsimp only); exact HALL.out _ k5
              clear hK K hHeld
              try simp only [Act.put, List.setIfInBounds_toArray, List.set_cons_zero, List.set_cons_succ]
              have hHeld := hHeld2
              clear hHeld2
              refine wpAnyH_take (i := 10) (oi := { dst := some 176, op := Op.binOp BinOp.neq 39 (Operand.tmp 174) (Operand.tmp 175) 39, type := 4, pos := "law.go:156", after := #[{ on := 8, ground := Ground.data }, { on := 9, ground := Ground.data }, { on := 6, ground := Ground.guard }], guard := some (6, false) }) (v := ?_) rfl (by kernel_rfl) (by kernel_rfl) (by kernel_rfl) (fun _ _ _ h => h) (Or.inl ⟨by rfl, ?_⟩) (by assumption) ?_
              rotate_left
              · intro w hSw; (try dsimp only at hSw); go_simp; (try with_reducible rfl)
              try simp only [Act.put, List.setIfInBounds_toArray, List.set_cons_zero, List.set_cons_succ]
              refine wpAnyH_take (i := 11) (oi := { dst := some 177, op := Op.pick (Operand.tmp 172) (Operand.const (Value.bool true)) (Operand.tmp 176), type := 4, pos := "law.go:156", after := #[{ on := 6, ground := Ground.data }, { on := 10, ground := Ground.data }], guard := none }) (v := ?_) rfl (by kernel_rfl) (by kernel_rfl) (by kernel_rfl) (fun _ _ _ h => h) (Or.inl ⟨by rfl, ?_⟩) (by assumption) ?_
              rotate_left
              · intro w hSw; (try dsimp only at hSw); go_simp; (try with_reducible rfl)
              try simp only [Act.put, List.setIfInBounds_toArray, List.set_cons_zero, List.set_cons_succ]
              refine wpAnyH_take (i := 12) (oi := { dst := some 178, op := Op.move (Operand.tmp 177), type := 4, pos := "law.go:156", after := #[{ on := 11, ground := Ground.data }, { on := 8, ground := Ground.chain }], guard := none }) (v := ?_) rfl (by kernel_rfl) (by kernel_rfl) (by kernel_rfl) (fun _ _ _ h => h) (Or.inl ⟨by rfl, ?_⟩) (by assumption) ?_
              rotate_left
              · intro w hSw; (try dsimp only at hSw); go_simp; (try with_reducible rfl)
              try simp only [Act.put, List.setIfInBounds_toArray, List.set_cons_zero, List.set_cons_succ]
              refine wpAnyH_take (i := 13) (oi := { dst := some 179, op := Op.move (Operand.tmp 9), type := 31, pos := "law.go:156", after := #[{ on := 12, ground := Ground.guard }], guard := some (12, false) }) (v := ?_) rfl (by kernel_rfl) (by kernel_rfl) (by kernel_rfl) (fun _ _ _ h => h) (Or.inl ⟨by rfl, ?_⟩) (by assumption) ?_
              rotate_left
              · intro w hSw; (try dsimp only at hSw); go_simp; (try with_reducible rfl)
              try simp only [Act.put, List.setIfInBounds_toArray, List.set_cons_zero, List.set_cons_succ]
              refine wpAnyH_take (i := 16) (oi := { dst := some 182, op := Op.load 39 (Operand.tmp 22), type := 39, pos := "law.go:156", after := #[{ on := 12, ground := Ground.guard }], guard := some (12, false) }) (v := ?_) rfl (by kernel_rfl) (by kernel_rfl) (by kernel_rfl) (fun _ _ _ h => h) (Or.inl ⟨by rfl, ?_⟩) (by assumption) ?_
              rotate_left
              · intro w hSw; (try dsimp only at hSw); go_simp; (try with_reducible rfl)
              try simp only [Act.put, List.setIfInBounds_toArray, List.set_cons_zero, List.set_cons_succ]
              refine wpAnyH_ready (rs := [14, 18]) (by kernel_rfl) (by simp) ?_
              refine AllReadyH.cons (o := { dst := some 180, op := Op.call { callee := Callee.value (Operand.func 33), args := #[Operand.tmp 179], argTypes := #[31] }, type := 9, pos := "law.go:156", after := #[{ on := 13, ground := Ground.data }, { on := 12, ground := Ground.chain }, { on := 12, ground := Ground.guard }], guard := some (12, false) }) rfl (fun K hK => ?_) ?_
              · go_simp
                go_at_call 33
                refine (HCI.out _ (k5)).mono ?_
                rintro e V6 ⟨rfl, k6, q6⟩
                refine hK.out _ _ ?_ (fun hHeld2 => ?_)
                · (try dsimp only); exact HALL.out _ (k6)
                clear hK K hHeld
                try simp only [Act.put, List.setIfInBounds_toArray, List.set_cons_zero, List.set_cons_succ]
                have hHeld := hHeld2
                clear hHeld2
                refine wpAnyH_take (i := 15) (oi := { dst := some 181, op := Op.slice 9 (Operand.tmp 180) none (some (Operand.const (Value.int IntKind.i64 32))) none, type := 9, pos := "law.go:156", after := #[{ on := 14, ground := Ground.data }, { on := 12, ground := Ground.guard }], guard := some (12, false) }) (v := ?_) rfl (by kernel_rfl) (by kernel_rfl) (by kernel_rfl) (fun _ _ _ h => h) (Or.inl ⟨by rfl, ?_⟩) (by assumption) ?_
                rotate_left
                · intro w hSw; (try dsimp only at hSw); go_simp; (try with_reducible rfl)
                try simp only [Act.put, List.setIfInBounds_toArray, List.set_cons_zero, List.set_cons_succ]
                refine wpAnyH_ready (rs := [17, 18]) (by kernel_rfl) (by simp) ?_
                refine AllReadyH.cons (o := { dst := some 183, op := Op.call { callee := Callee.value (Operand.func 34), args := #[Operand.tmp 182], argTypes := #[39] }, type := 9, pos := "law.go:156", after := #[{ on := 16, ground := Ground.data }, { on := 14, ground := Ground.chain }, { on := 12, ground := Ground.guard }], guard := some (12, false) }) rfl (fun K hK => ?_) ?_
                · go_simp
                  go_at_call 34
                  refine (HCB.out _ (k6)).mono ?_
                  rintro e V7 ⟨rfl, k7, q7⟩
                  refine hK.out _ _ ?_ (fun hHeld2 => ?_)
                  · (try dsimp only); exact HALL.out _ (k7)
                  clear hK K hHeld
                  try simp only [Act.put, List.setIfInBounds_toArray, List.set_cons_zero, List.set_cons_succ]
                  have hHeld := hHeld2
                  clear hHeld2
                  refine wpAnyH_ready (rs := [18]) (by kernel_rfl) (by simp) ?_
                  refine AllReadyH.cons (o := { dst := some 184, op := Op.makeSlice 77 (Operand.const (Value.int IntKind.i64 16)) (Operand.const (Value.int IntKind.i64 16)), type := 77, pos := "law.go:156", after := #[{ on := 12, ground := Ground.guard }], guard := some (12, false) }) rfl (fun K hK => ?_) ?_
                  · go_simp
                    refine hK.out _ _ ?_ (fun hHeld2 => ?_)
                    · (try dsimp only); exact HALL.out _ (KeptIn.alloc (k7) (fun _ h => h) (.cells CZ 5))
                    clear hK K hHeld
                    try simp only [Act.put, List.setIfInBounds_toArray, List.set_cons_zero, List.set_cons_succ]
                    have hHeld := hHeld2
                    clear hHeld2
                    refine wpAnyH_ready (rs := [19]) (by kernel_rfl) (by simp) ?_
                    refine AllReadyH.cons (o := { dst := some 185, op := Op.convert 77 9 (Operand.tmp 184), type := 9, pos := "law.go:156", after := #[{ on := 18, ground := Ground.data }, { on := 12, ground := Ground.guard }], guard := some (12, false) }) rfl (fun K hK => ?_) ?_
                    · go_simp
                      refine hK.out _ _ ?_ (fun hHeld2 => ?_)
                      · (try dsimp only); exact HALL.out _ (KeptIn.alloc (k7) (fun _ h => h) (.cells CZ 5))
                      clear hK K hHeld
                      try simp only [Act.put, List.setIfInBounds_toArray, List.set_cons_zero, List.set_cons_succ]
                      have hHeld := hHeld2
                      clear hHeld2
                      refine wpAnyH_take (i := 20) (oi := { dst := some 186, op := Op.binOp BinOp.add 9 (Operand.tmp 183) (Operand.tmp 185) 9, type := 9, pos := "law.go:156", after := #[{ on := 17, ground := Ground.data }, { on := 19, ground := Ground.data }, { on := 12, ground := Ground.guard }], guard := some (12, false) }) (v := ?_) rfl (by kernel_rfl) (by kernel_rfl) (by kernel_rfl) (fun _ _ _ h => h) (Or.inl ⟨by rfl, ?_⟩) (by assumption) ?_
                      rotate_left
                      · intro w hSw; (try dsimp only at hSw); go_simp; (try with_reducible rfl)
                      try simp only [Act.put, List.setIfInBounds_toArray, List.set_cons_zero, List.set_cons_succ]
                      refine wpAnyH_take (i := 21) (oi := { dst := some 187, op := Op.binOp BinOp.neq 9 (Operand.tmp 181) (Operand.tmp 186) 9, type := 4, pos := "law.go:156", after := #[{ on := 15, ground := Ground.data }, { on := 20, ground := Ground.data }, { on := 12, ground := Ground.guard }], guard := some (12, false) }) (v := ?_) rfl (by kernel_rfl) (by kernel_rfl) (by kernel_rfl) (fun _ _ _ h => h) (Or.inl ⟨by rfl, ?_⟩) (by assumption) ?_
                      rotate_left
                      · intro w hSw; (try dsimp only at hSw); go_simp; (try with_reducible rfl)
                      try simp only [Act.put, List.setIfInBounds_toArray, List.set_cons_zero, List.set_cons_succ]
                      refine wpAnyH_take (i := 22) (oi := { dst := some 188, op := Op.pick (Operand.tmp 178) (Operand.const (Value.bool true)) (Operand.tmp 187), type := 4, pos := "law.go:156", after := #[{ on := 12, ground := Ground.data }, { on := 21, ground := Ground.data }], guard := none }) (v := ?_) rfl (by kernel_rfl) (by kernel_rfl) (by kernel_rfl) (fun _ _ _ h => h) (Or.inl ⟨by rfl, ?_⟩) (by assumption) ?_
                      rotate_left
                      · intro w hSw; (try dsimp only at hSw); go_simp; (try with_reducible rfl)
                      try simp only [Act.put, List.setIfInBounds_toArray, List.set_cons_zero, List.set_cons_succ]
                      refine wpAnyH_done (by kernel_rfl) ?_ _
                      have HX := Lib.hid (KeptIn.alloc (k7) (fun _ h => h) (.cells CZ 5))
                      clear HALL HH HCI HCB hHas hcv hmk hHeld
                      go_wp2_with fail
                      go_meet
                      case rel => exact HX
                    exact AllReadyH.nil
                  exact AllReadyH.nil
                refine AllReadyH.cons (o := { dst := some 184, op := Op.makeSlice 77 (Operand.const (Value.int IntKind.i64 16)) (Operand.const (Value.int IntKind.i64 16)), type := 77, pos := "law.go:156", after := #[{ on := 12, ground := Ground.guard }], guard := some (12, false) }) rfl (fun K hK => ?_) ?_
                · go_simp
                  refine hK.out _ _ ?_ (fun hHeld2 => ?_)
                  · (try dsimp only); exact HALL.out _ (KeptIn.alloc (k6) (fun _ h => h) (.cells CZ 5))
                  clear hK K hHeld
                  try simp only [Act.put, List.setIfInBounds_toArray, List.set_cons_zero, List.set_cons_succ]
                  have hHeld := hHeld2
                  clear hHeld2
                  refine wpAnyH_ready (rs := [17, 19]) (by kernel_rfl) (by simp) ?_
                  refine AllReadyH.cons (o := { dst := some 183, op := Op.call { callee := Callee.value (Operand.func 34), args := #[Operand.tmp 182], argTypes := #[39] }, type := 9, pos := "law.go:156", after := #[{ on := 16, ground := Ground.data }, { on := 14, ground := Ground.chain }, { on := 12, ground := Ground.guard }], guard := some (12, false) }) rfl (fun K hK => ?_) ?_
                  · go_simp
                    go_at_call 34
                    refine (HCB.out _ (KeptIn.alloc (k6) (fun _ h => h) (.cells CZ 5))).mono ?_
                    rintro e V7 ⟨rfl, k7, q7⟩
                    have hA7 := Has.call q7 (hHas _)
                    refine hK.out _ _ ?_ (fun hHeld2 => ?_)
                    · (try dsimp only); exact HALL.out _ (k7)
                    clear hK K hHeld
                    try simp only [Act.put, List.setIfInBounds_toArray, List.set_cons_zero, List.set_cons_succ]
                    have hHeld := hHeld2
                    clear hHeld2
                    refine wpAnyH_ready (rs := [19]) (by kernel_rfl) (by simp) ?_
                    refine AllReadyH.cons (o := { dst := some 185, op := Op.convert 77 9 (Operand.tmp 184), type := 9, pos := "law.go:156", after := #[{ on := 18, ground := Ground.data }, { on := 12, ground := Ground.guard }], guard := some (12, false) }) rfl (fun K hK => ?_) ?_
                    · go_simp
                      refine hK.out _ _ ?_ (fun hHeld2 => ?_)
                      · (try dsimp only); exact HALL.out _ (k7)
                      clear hK K hHeld
                      try simp only [Act.put, List.setIfInBounds_toArray, List.set_cons_zero, List.set_cons_succ]
                      have hHeld := hHeld2
                      clear hHeld2
                      refine wpAnyH_take (i := 20) (oi := { dst := some 186, op := Op.binOp BinOp.add 9 (Operand.tmp 183) (Operand.tmp 185) 9, type := 9, pos := "law.go:156", after := #[{ on := 17, ground := Ground.data }, { on := 19, ground := Ground.data }, { on := 12, ground := Ground.guard }], guard := some (12, false) }) (v := ?_) rfl (by kernel_rfl) (by kernel_rfl) (by kernel_rfl) (fun _ _ _ h => h) (Or.inl ⟨by rfl, ?_⟩) (by assumption) ?_
                      rotate_left
                      · intro w hSw; (try dsimp only at hSw); go_simp; (try with_reducible rfl)
                      try simp only [Act.put, List.setIfInBounds_toArray, List.set_cons_zero, List.set_cons_succ]
                      refine wpAnyH_take (i := 21) (oi := { dst := some 187, op := Op.binOp BinOp.neq 9 (Operand.tmp 181) (Operand.tmp 186) 9, type := 4, pos := "law.go:156", after := #[{ on := 15, ground := Ground.data }, { on := 20, ground := Ground.data }, { on := 12, ground := Ground.guard }], guard := some (12, false) }) (v := ?_) rfl (by kernel_rfl) (by kernel_rfl) (by kernel_rfl) (fun _ _ _ h => h) (Or.inl ⟨by rfl, ?_⟩) (by assumption) ?_
                      rotate_left
                      · intro w hSw; (try dsimp only at hSw); go_simp; (try with_reducible rfl)
                      try simp only [Act.put, List.setIfInBounds_toArray, List.set_cons_zero, List.set_cons_succ]
                      refine wpAnyH_take (i := 22) (oi := { dst := some 188, op := Op.pick (Operand.tmp 178) (Operand.const (Value.bool true)) (Operand.tmp 187), type := 4, pos := "law.go:156", after := #[{ on := 12, ground := Ground.data }, { on := 21, ground := Ground.data }], guard := none }) (v := ?_) rfl (by kernel_rfl) (by kernel_rfl) (by kernel_rfl) (fun _ _ _ h => h) (Or.inl ⟨by rfl, ?_⟩) (by assumption) ?_
                      rotate_left
                      · intro w hSw; (try dsimp only at hSw); go_simp; (try with_reducible rfl)
                      try simp only [Act.put, List.setIfInBounds_toArray, List.set_cons_zero, List.set_cons_succ]
                      refine wpAnyH_done (by kernel_rfl) ?_ _
                      have HX := Lib.hid (k7)
                      clear HALL HH HCI HCB hHas hcv hmk hHeld
                      go_wp2_with fail
                      go_meet
                      case rel => exact HX
                    exact AllReadyH.nil
                  refine AllReadyH.cons (o := { dst := some 185, op := Op.convert 77 9 (Operand.tmp 184), type := 9, pos := "law.go:156", after := #[{ on := 18, ground := Ground.data }, { on := 12, ground := Ground.guard }], guard := some (12, false) }) rfl (fun K hK => ?_) ?_
                  · go_simp
                    refine hK.out _ _ ?_ (fun hHeld2 => ?_)
                    · (try dsimp only); exact HALL.out _ (KeptIn.alloc (k6) (fun _ h => h) (.cells CZ 5))
                    clear hK K hHeld
                    try simp only [Act.put, List.setIfInBounds_toArray, List.set_cons_zero, List.set_cons_succ]
                    have hHeld := hHeld2
                    clear hHeld2
                    refine wpAnyH_ready (rs := [17]) (by kernel_rfl) (by simp) ?_
                    refine AllReadyH.cons (o := { dst := some 183, op := Op.call { callee := Callee.value (Operand.func 34), args := #[Operand.tmp 182], argTypes := #[39] }, type := 9, pos := "law.go:156", after := #[{ on := 16, ground := Ground.data }, { on := 14, ground := Ground.chain }, { on := 12, ground := Ground.guard }], guard := some (12, false) }) rfl (fun K hK => ?_) ?_
                    · go_simp
                      go_at_call 34
                      refine (HCB.out _ (KeptIn.alloc (k6) (fun _ h => h) (.cells CZ 5))).mono ?_
                      rintro e V7 ⟨rfl, k7, q7⟩
                      have hA7 := Has.call q7 (hHas _)
                      refine hK.out _ _ ?_ (fun hHeld2 => ?_)
                      · (try dsimp only); exact HALL.out _ (k7)
                      clear hK K hHeld
                      try simp only [Act.put, List.setIfInBounds_toArray, List.set_cons_zero, List.set_cons_succ]
                      have hHeld := hHeld2
                      clear hHeld2
                      refine wpAnyH_take (i := 20) (oi := { dst := some 186, op := Op.binOp BinOp.add 9 (Operand.tmp 183) (Operand.tmp 185) 9, type := 9, pos := "law.go:156", after := #[{ on := 17, ground := Ground.data }, { on := 19, ground := Ground.data }, { on := 12, ground := Ground.guard }], guard := some (12, false) }) (v := ?_) rfl (by kernel_rfl) (by kernel_rfl) (by kernel_rfl) (fun _ _ _ h => h) (Or.inl ⟨by rfl, ?_⟩) (by assumption) ?_
                      rotate_left
                      · intro w hSw; (try dsimp only at hSw); go_simp; (try with_reducible rfl)
                      try simp only [Act.put, List.setIfInBounds_toArray, List.set_cons_zero, List.set_cons_succ]
                      refine wpAnyH_take (i := 21) (oi := { dst := some 187, op := Op.binOp BinOp.neq 9 (Operand.tmp 181) (Operand.tmp 186) 9, type := 4, pos := "law.go:156", after := #[{ on := 15, ground := Ground.data }, { on := 20, ground := Ground.data }, { on := 12, ground := Ground.guard }], guard := some (12, false) }) (v := ?_) rfl (by kernel_rfl) (by kernel_rfl) (by kernel_rfl) (fun _ _ _ h => h) (Or.inl ⟨by rfl, ?_⟩) (by assumption) ?_
                      rotate_left
                      · intro w hSw; (try dsimp only at hSw); go_simp; (try with_reducible rfl)
                      try simp only [Act.put, List.setIfInBounds_toArray, List.set_cons_zero, List.set_cons_succ]
                      refine wpAnyH_take (i := 22) (oi := { dst := some 188, op := Op.pick (Operand.tmp 178) (Operand.const (Value.bool true)) (Operand.tmp 187), type := 4, pos := "law.go:156", after := #[{ on := 12, ground := Ground.data }, { on := 21, ground := Ground.data }], guard := none }) (v := ?_) rfl (by kernel_rfl) (by kernel_rfl) (by kernel_rfl) (fun _ _ _ h => h) (Or.inl ⟨by rfl, ?_⟩) (by assumption) ?_
                      rotate_left
                      · intro w hSw; (try dsimp only at hSw); go_simp; (try with_reducible rfl)
                      try simp only [Act.put, List.setIfInBounds_toArray, List.set_cons_zero, List.set_cons_succ]
                      refine wpAnyH_done (by kernel_rfl) ?_ _
                      have HX := Lib.hid (k7)
                      clear HALL HH HCI HCB hHas hcv hmk hHeld
                      go_wp2_with fail
                      go_meet
                      case rel => exact HX
                    exact AllReadyH.nil
                  exact AllReadyH.nil
                exact AllReadyH.nil
              refine AllReadyH.cons (o := { dst := some 184, op := Op.makeSlice 77 (Operand.const (Value.int IntKind.i64 16)) (Operand.const (Value.int IntKind.i64 16)), type := 77, pos := "law.go:156", after := #[{ on := 12, ground := Ground.guard }], guard := some (12, false) }) rfl (fun K hK => ?_) ?_
              · go_simp
                refine hK.out _ _ ?_ (fun hHeld2 => ?_)
                · (try dsimp only); exact HALL.out _ (KeptIn.alloc (k5) (fun _ h => h) (.cells CZ 5))
                clear hK K hHeld
                try simp only [Act.put, List.setIfInBounds_toArray, List.set_cons_zero, List.set_cons_succ]
                have hHeld := hHeld2
                clear hHeld2
                refine wpAnyH_ready (rs := [14, 19]) (by kernel_rfl) (by simp) ?_
                refine AllReadyH.cons (o := { dst := some 180, op := Op.call { callee := Callee.value (Operand.func 33), args := #[Operand.tmp 179], argTypes := #[31] }, type := 9, pos := "law.go:156", after := #[{ on := 13, ground := Ground.data }, { on := 12, ground := Ground.chain }, { on := 12, ground := Ground.guard }], guard := some (12, false) }) rfl (fun K hK => ?_) ?_
                · go_simp
                  go_at_call 33
                  refine (HCI.out _ (KeptIn.alloc (k5) (fun _ h => h) (.cells CZ 5))).mono ?_
                  rintro e V6 ⟨rfl, k6, q6⟩
                  have hA6 := Has.call q6 (hHas _)
                  refine hK.out _ _ ?_ (fun hHeld2 => ?_)
                  · (try dsimp only); exact HALL.out _ (k6)
                  clear hK K hHeld
                  try simp only [Act.put, List.setIfInBounds_toArray, List.set_cons_zero, List.set_cons_succ]
                  have hHeld := hHeld2
                  clear hHeld2
                  refine wpAnyH_take (i := 15) (oi := { dst := some 181, op := Op.slice 9 (Operand.tmp 180) none (some (Operand.const (Value.int IntKind.i64 32))) none, type := 9, pos := "law.go:156", after := #[{ on := 14, ground := Ground.data }, { on := 12, ground := Ground.guard }], guard := some (12, false) }) (v := ?_) rfl (by kernel_rfl) (by kernel_rfl) (by kernel_rfl) (fun _ _ _ h => h) (Or.inl ⟨by rfl, ?_⟩) (by assumption) ?_
                  rotate_left
                  · intro w hSw; (try dsimp only at hSw); go_simp; (try with_reducible rfl)
                  try simp only [Act.put, List.setIfInBounds_toArray, List.set_cons_zero, List.set_cons_succ]
                  refine wpAnyH_ready (rs := [17, 19]) (by kernel_rfl) (by simp) ?_
                  refine AllReadyH.cons (o := { dst := some 183, op := Op.call { callee := Callee.value (Operand.func 34), args := #[Operand.tmp 182], argTypes := #[39] }, type := 9, pos := "law.go:156", after := #[{ on := 16, ground := Ground.data }, { on := 14, ground := Ground.chain }, { on := 12, ground := Ground.guard }], guard := some (12, false) }) rfl (fun K hK => ?_) ?_
                  · go_simp
                    go_at_call 34
                    refine (HCB.out _ (k6)).mono ?_
                    rintro e V7 ⟨rfl, k7, q7⟩
                    have hA7 := Has.call q7 hA6
                    refine hK.out _ _ ?_ (fun hHeld2 => ?_)
                    · (try dsimp only); exact HALL.out _ (k7)
                    clear hK K hHeld
                    try simp only [Act.put, List.setIfInBounds_toArray, List.set_cons_zero, List.set_cons_succ]
                    have hHeld := hHeld2
                    clear hHeld2
                    refine wpAnyH_ready (rs := [19]) (by kernel_rfl) (by simp) ?_
                    refine AllReadyH.cons (o := { dst := some 185, op := Op.convert 77 9 (Operand.tmp 184), type := 9, pos := "law.go:156", after := #[{ on := 18, ground := Ground.data }, { on := 12, ground := Ground.guard }], guard := some (12, false) }) rfl (fun K hK => ?_) ?_
                    · go_simp
                      refine hK.out _ _ ?_ (fun hHeld2 => ?_)
                      · (try dsimp only); exact HALL.out _ (k7)
                      clear hK K hHeld
                      try simp only [Act.put, List.setIfInBounds_toArray, List.set_cons_zero, List.set_cons_succ]
                      have hHeld := hHeld2
                      clear hHeld2
                      refine wpAnyH_take (i := 20) (oi := { dst := some 186, op := Op.binOp BinOp.add 9 (Operand.tmp 183) (Operand.tmp 185) 9, type := 9, pos := "law.go:156", after := #[{ on := 17, ground := Ground.data }, { on := 19, ground := Ground.data }, { on := 12, ground := Ground.guard }], guard := some (12, false) }) (v := ?_) rfl (by kernel_rfl) (by kernel_rfl) (by kernel_rfl) (fun _ _ _ h => h) (Or.inl ⟨by rfl, ?_⟩) (by assumption) ?_
                      rotate_left
                      · intro w hSw; (try dsimp only at hSw); go_simp; (try with_reducible rfl)
                      try simp only [Act.put, List.setIfInBounds_toArray, List.set_cons_zero, List.set_cons_succ]
                      refine wpAnyH_take (i := 21) (oi := { dst := some 187, op := Op.binOp BinOp.neq 9 (Operand.tmp 181) (Operand.tmp 186) 9, type := 4, pos := "law.go:156", after := #[{ on := 15, ground := Ground.data }, { on := 20, ground := Ground.data }, { on := 12, ground := Ground.guard }], guard := some (12, false) }) (v := ?_) rfl (by kernel_rfl) (by kernel_rfl) (by kernel_rfl) (fun _ _ _ h => h) (Or.inl ⟨by rfl, ?_⟩) (by assumption) ?_
                      rotate_left
                      · intro w hSw; (try dsimp only at hSw); go_simp; (try with_reducible rfl)
                      try simp only [Act.put, List.setIfInBounds_toArray, List.set_cons_zero, List.set_cons_succ]
                      refine wpAnyH_take (i := 22) (oi := { dst := some 188, op := Op.pick (Operand.tmp 178) (Operand.const (Value.bool true)) (Operand.tmp 187), type := 4, pos := "law.go:156", after := #[{ on := 12, ground := Ground.data }, { on := 21, ground := Ground.data }], guard := none }) (v := ?_) rfl (by kernel_rfl) (by kernel_rfl) (by kernel_rfl) (fun _ _ _ h => h) (Or.inl ⟨by rfl, ?_⟩) (by assumption) ?_
                      rotate_left
                      · intro w hSw; (try dsimp only at hSw); go_simp; (try with_reducible rfl)
                      try simp only [Act.put, List.setIfInBounds_toArray, List.set_cons_zero, List.set_cons_succ]
                      refine wpAnyH_done (by kernel_rfl) ?_ _
                      have HX := Lib.hid (k7)
                      clear HALL HH HCI HCB hHas hcv hmk hHeld
                      go_wp2_with fail
                      go_meet
                      case rel => exact HX
                    exact AllReadyH.nil
                  refine AllReadyH.cons (o := { dst := some 185, op := Op.convert 77 9 (Operand.tmp 184), type := 9, pos := "law.go:156", after := #[{ on := 18, ground := Ground.data }, { on := 12, ground := Ground.guard }], guard := some (12, false) }) rfl (fun K hK => ?_) ?_
                  · go_simp
                    refine hK.out _ _ ?_ (fun hHeld2 => ?_)
                    · (try dsimp only); exact HALL.out _ (k6)
                    clear hK K hHeld
                    try simp only [Act.put, List.setIfInBounds_toArray, List.set_cons_zero, List.set_cons_succ]
                    have hHeld := hHeld2
                    clear hHeld2
                    refine wpAnyH_ready (rs := [17]) (by kernel_rfl) (by simp) ?_
                    refine AllReadyH.cons (o := { dst := some 183, op := Op.call { callee := Callee.value (Operand.func 34), args := #[Operand.tmp 182], argTypes := #[39] }, type := 9, pos := "law.go:156", after := #[{ on := 16, ground := Ground.data }, { on := 14, ground := Ground.chain }, { on := 12, ground := Ground.guard }], guard := some (12, false) }) rfl (fun K hK => ?_) ?_
                    · go_simp
                      go_at_call 34
                      refine (HCB.out _ (k6)).mono ?_
                      rintro e V7 ⟨rfl, k7, q7⟩
                      have hA7 := Has.call q7 hA6
                      refine hK.out _ _ ?_ (fun hHeld2 => ?_)
                      · (try dsimp only); exact HALL.out _ (k7)
                      clear hK K hHeld
                      try simp only [Act.put, List.setIfInBounds_toArray, List.set_cons_zero, List.set_cons_succ]
                      have hHeld := hHeld2
                      clear hHeld2
                      refine wpAnyH_take (i := 20) (oi := { dst := some 186, op := Op.binOp BinOp.add 9 (Operand.tmp 183) (Operand.tmp 185) 9, type := 9, pos := "law.go:156", after := #[{ on := 17, ground := Ground.data }, { on := 19, ground := Ground.data }, { on := 12, ground := Ground.guard }], guard := some (12, false) }) (v := ?_) rfl (by kernel_rfl) (by kernel_rfl) (by kernel_rfl) (fun _ _ _ h => h) (Or.inl ⟨by rfl, ?_⟩) (by assumption) ?_
                      rotate_left
                      · intro w hSw; (try dsimp only at hSw); go_simp; (try with_reducible rfl)
                      try simp only [Act.put, List.setIfInBounds_toArray, List.set_cons_zero, List.set_cons_succ]
                      refine wpAnyH_take (i := 21) (oi := { dst := some 187, op := Op.binOp BinOp.neq 9 (Operand.tmp 181) (Operand.tmp 186) 9, type := 4, pos := "law.go:156", after := #[{ on := 15, ground := Ground.data }, { on := 20, ground := Ground.data }, { on := 12, ground := Ground.guard }], guard := some (12, false) }) (v := ?_) rfl (by kernel_rfl) (by kernel_rfl) (by kernel_rfl) (fun _ _ _ h => h) (Or.inl ⟨by rfl, ?_⟩) (by assumption) ?_
                      rotate_left
                      · intro w hSw; (try dsimp only at hSw); go_simp; (try with_reducible rfl)
                      try simp only [Act.put, List.setIfInBounds_toArray, List.set_cons_zero, List.set_cons_succ]
                      refine wpAnyH_take (i := 22) (oi := { dst := some 188, op := Op.pick (Operand.tmp 178) (Operand.const (Value.bool true)) (Operand.tmp 187), type := 4, pos := "law.go:156", after := #[{ on := 12, ground := Ground.data }, { on := 21, ground := Ground.data }], guard := none }) (v := ?_) rfl (by kernel_rfl) (by kernel_rfl) (by kernel_rfl) (fun _ _ _ h => h) (Or.inl ⟨by rfl, ?_⟩) (by assumption) ?_
                      rotate_left
                      · intro w hSw; (try dsimp only at hSw); go_simp; (try with_reducible rfl)
                      try simp only [Act.put, List.setIfInBounds_toArray, List.set_cons_zero, List.set_cons_succ]
                      refine wpAnyH_done (by kernel_rfl) ?_ _
                      have HX := Lib.hid (k7)
                      clear HALL HH HCI HCB hHas hcv hmk hHeld
                      go_wp2_with fail
                      go_meet
                      case rel => exact HX
                    exact AllReadyH.nil
                  exact AllReadyH.nil
                refine AllReadyH.cons (o := { dst := some 185, op := Op.convert 77 9 (Operand.tmp 184), type := 9, pos := "law.go:156", after := #[{ on := 18, ground := Ground.data }, { on := 12, ground := Ground.guard }], guard := some (12, false) }) rfl (fun K hK => ?_) ?_
                · go_simp
                  refine hK.out _ _ ?_ (fun hHeld2 => ?_)
                  · (try dsimp only); exact HALL.out _ (KeptIn.alloc (k5) (fun _ h => h) (.cells CZ 5))
                  clear hK K hHeld
                  try simp only [Act.put, List.setIfInBounds_toArray, List.set_cons_zero, List.set_cons_succ]
                  have hHeld := hHeld2
                  clear hHeld2
                  refine wpAnyH_ready (rs := [14]) (by kernel_rfl) (by simp) ?_
                  refine AllReadyH.cons (o := { dst := some 180, op := Op.call { callee := Callee.value (Operand.func 33), args := #[Operand.tmp 179], argTypes := #[31] }, type := 9, pos := "law.go:156", after := #[{ on := 13, ground := Ground.data }, { on := 12, ground := Ground.chain }, { on := 12, ground := Ground.guard }], guard := some (12, false) }) rfl (fun K hK => ?_) ?_
                  · go_simp
                    go_at_call 33
                    refine (HCI.out _ (KeptIn.alloc (k5) (fun _ h => h) (.cells CZ 5))).mono ?_
                    rintro e V6 ⟨rfl, k6, q6⟩
                    have hA6 := Has.call q6 (hHas _)
                    refine hK.out _ _ ?_ (fun hHeld2 => ?_)
                    · (try dsimp only); exact HALL.out _ (k6)
                    clear hK K hHeld
                    try simp only [Act.put, List.setIfInBounds_toArray, List.set_cons_zero, List.set_cons_succ]
                    have hHeld := hHeld2
                    clear hHeld2
                    refine wpAnyH_take (i := 15) (oi := { dst := some 181, op := Op.slice 9 (Operand.tmp 180) none (some (Operand.const (Value.int IntKind.i64 32))) none, type := 9, pos := "law.go:156", after := #[{ on := 14, ground := Ground.data }, { on := 12, ground := Ground.guard }], guard := some (12, false) }) (v := ?_) rfl (by kernel_rfl) (by kernel_rfl) (by kernel_rfl) (fun _ _ _ h => h) (Or.inl ⟨by rfl, ?_⟩) (by assumption) ?_
                    rotate_left
                    · intro w hSw; (try dsimp only at hSw); go_simp; (try with_reducible rfl)
                    try simp only [Act.put, List.setIfInBounds_toArray, List.set_cons_zero, List.set_cons_succ]
                    refine wpAnyH_ready (rs := [17]) (by kernel_rfl) (by simp) ?_
                    refine AllReadyH.cons (o := { dst := some 183, op := Op.call { callee := Callee.value (Operand.func 34), args := #[Operand.tmp 182], argTypes := #[39] }, type := 9, pos := "law.go:156", after := #[{ on := 16, ground := Ground.data }, { on := 14, ground := Ground.chain }, { on := 12, ground := Ground.guard }], guard := some (12, false) }) rfl (fun K hK => ?_) ?_
                    · go_simp
                      go_at_call 34
                      refine (HCB.out _ (k6)).mono ?_
                      rintro e V7 ⟨rfl, k7, q7⟩
                      have hA7 := Has.call q7 hA6
                      refine hK.out _ _ ?_ (fun hHeld2 => ?_)
                      · (try dsimp only); exact HALL.out _ (k7)
                      clear hK K hHeld
                      try simp only [Act.put, List.setIfInBounds_toArray, List.set_cons_zero, List.set_cons_succ]
                      have hHeld := hHeld2
                      clear hHeld2
                      refine wpAnyH_take (i := 20) (oi := { dst := some 186, op := Op.binOp BinOp.add 9 (Operand.tmp 183) (Operand.tmp 185) 9, type := 9, pos := "law.go:156", after := #[{ on := 17, ground := Ground.data }, { on := 19, ground := Ground.data }, { on := 12, ground := Ground.guard }], guard := some (12, false) }) (v := ?_) rfl (by kernel_rfl) (by kernel_rfl) (by kernel_rfl) (fun _ _ _ h => h) (Or.inl ⟨by rfl, ?_⟩) (by assumption) ?_
                      rotate_left
                      · intro w hSw; (try dsimp only at hSw); go_simp; (try with_reducible rfl)
                      try simp only [Act.put, List.setIfInBounds_toArray, List.set_cons_zero, List.set_cons_succ]
                      refine wpAnyH_take (i := 21) (oi := { dst := some 187, op := Op.binOp BinOp.neq 9 (Operand.tmp 181) (Operand.tmp 186) 9, type := 4, pos := "law.go:156", after := #[{ on := 15, ground := Ground.data }, { on := 20, ground := Ground.data }, { on := 12, ground := Ground.guard }], guard := some (12, false) }) (v := ?_) rfl (by kernel_rfl) (by kernel_rfl) (by kernel_rfl) (fun _ _ _ h => h) (Or.inl ⟨by rfl, ?_⟩) (by assumption) ?_
                      rotate_left
                      · intro w hSw; (try dsimp only at hSw); go_simp; (try with_reducible rfl)
                      try simp only [Act.put, List.setIfInBounds_toArray, List.set_cons_zero, List.set_cons_succ]
                      refine wpAnyH_take (i := 22) (oi := { dst := some 188, op := Op.pick (Operand.tmp 178) (Operand.const (Value.bool true)) (Operand.tmp 187), type := 4, pos := "law.go:156", after := #[{ on := 12, ground := Ground.data }, { on := 21, ground := Ground.data }], guard := none }) (v := ?_) rfl (by kernel_rfl) (by kernel_rfl) (by kernel_rfl) (fun _ _ _ h => h) (Or.inl ⟨by rfl, ?_⟩) (by assumption) ?_
                      rotate_left
                      · intro w hSw; (try dsimp only at hSw); go_simp; (try with_reducible rfl)
                      try simp only [Act.put, List.setIfInBounds_toArray, List.set_cons_zero, List.set_cons_succ]
                      refine wpAnyH_done (by kernel_rfl) ?_ _
                      have HX := Lib.hid (k7)
                      clear HALL HH HCI HCB hHas hcv hmk hHeld
                      go_wp2_with fail
                      go_meet
                      case rel => exact HX
                    exact AllReadyH.nil
                  exact AllReadyH.nil
                exact AllReadyH.nil
              exact AllReadyH.nil
            exact AllReadyH.nil
        case rest =>
          obtain ⟨X3, rfl⟩ : ∃ X3, X3 = wc := ⟨_, rfl⟩
          have hk3 : KeptIn (· < w3.heap.size) w3 X3 := by
            have h1 : KeptIn (· < V1.heap.size) V1 X1 := by rw [HZ2.out]; exact HX1.out.2.1
            exact ((HX1.out.1.trans (h1.mono fun k hk => Nat.lt_of_lt_of_le hk HX1.out.1.size)).trans (HK2.out.mono fun k hk => Nat.lt_of_lt_of_le hk (Nat.le_trans HX1.out.1.size h1.size))).trans (hcut.out.mono fun k hk => Nat.lt_of_lt_of_le hk (Nat.le_trans (Nat.le_trans HX1.out.1.size h1.size) HK2.out.size))
          have hbx := (hk3.block w.heap.size HXLT.out).trans HK3.out.2.1
          have c0 : X3.cell? ⟨w.heap.size, 0, none⟩ = some (.int .i64 sl) := by simp [World.cell?, hbx]
          have c1 : X3.cell? ⟨w.heap.size, 1, none⟩ = some (.int .i64 ft) := by simp [World.cell?, hbx]
          have HFW := Lib.hid ((HK3.out.1.trans (hk3.mono fun k hk => Nat.lt_of_lt_of_le hk HXLT2.out)))
          clear hbx hk3 hcut HK2 HX1 HZ2 HGD hor
          go_wp2_with (go_at_call 29; refine (stOpenNil X3).mono ?_; rintro e _ ⟨rfl, rfl⟩)
          refine (stFormatNil (.int .i64 0) (.int .i64 chunk) X3 sl ft).mono ?_
          rintro e Y1 ⟨rfl, k1⟩
          have K1 := Lib.hid k1
          clear k1 c0 c1
          go_wp2_with fail
          refine (l7node 1 1 (by decide) Y1).mono ?_
          rintro e Y2 hR
          unfold NodeS at hR
          obtain ⟨g, rfl, _, _, k2⟩ := hR
          have K2 := Lib.hid (K1.out.step k2)
          clear k2 K1
          go_wp2_with fail
          refine (stAddNil 0 (some ⟨g, 0, none⟩) 1 1 Y2).mono ?_
          rintro e Y3 ⟨rfl, k3⟩
          have K3 := Lib.hid (K2.out.step k3)
          clear k3 K2
          go_wp2_with fail
          refine (stReadNil 1 Y3).mono ?_
          rintro e Y4 hR
          unfold NoL leafV at hR
          obtain ⟨rfl, k4⟩ := hR
          have hk4 : KeptIn (· < X3.heap.size) X3 ((Y4.alloc (.cells #[.int .i64 0, .slice none 0 0] 47)).alloc (.cells #[.int .i64 1] 3)) := ((K3.out.step k4).step ((KeptIn.refl _ Y4).alloc (fun _ h => h) _)).step ((KeptIn.refl _ _).alloc (fun _ h => h) _)
          have K4 := Lib.hid hk4
          clear hk4 k4 K3
          go_wp2_with (first
            | (go_at_call 21; refine (stKeepNil _ _).mono ?_; rintro e _ ⟨rfl, rfl⟩)
            | (go_at_call 14; refine (stSweepNil _ _).mono ?_; rintro e _ ⟨rfl, rfl⟩)
            | (go_at_call 17; refine (stCommitNil 0 _ _).mono ?_; rintro e _ ⟨rfl, rfl⟩)
            | (go_at_call 25; refine (stPagesNil _).mono ?_; rintro e _ ⟨rfl, rfl⟩)
            | (go_at_call 26; refine (stFreeNil _).mono ?_; rintro e _ ⟨rfl, rfl⟩)
            | (go_at_call 27; refine (stFreshNil _).mono ?_; rintro e _ ⟨rfl, rfl⟩))
          refine (stHeadNil _).mono ?_
          rintro e Y5 hR
          unfold HeadS at hR
          obtain ⟨he, k5⟩ := hR
          have he2 : e = .returned (.agg #[.int .u64 0, .int .i64 0, .int .i64 0, .int .i64 0, .int .i64 0]) := he
          subst he2
          have K5 := Lib.hid (HFW.out.step (K4.out.step k5))
          clear he k5 K4 HFW
          go_wp2_with fail
          go_ret
          exact ⟨rfl, K5.out⟩

end Go.Proofs.YtkgjmejgkffbdaaGreatDoor
