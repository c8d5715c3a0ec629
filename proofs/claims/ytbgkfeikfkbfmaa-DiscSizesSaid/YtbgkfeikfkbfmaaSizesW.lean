/- tiercelaw04.DiscSizes: it answers true whatever the input; what was there stands. -/
import Derived.Test.YtbgkfeikfkbfmaaZeros4
import Derived.Test.YtbgkfeikfkbfmaaFl4
import Derived.Deep.Cut
import Derived.Deep.CutRange
set_option linter.unusedVariables false
namespace Go.Proofs.Ytbgkfeikfkbfmaa
open Go.RowKit

theorem i64_of_wf {x : Int} (h : (Lit.int .i64 x).wf = true) : I64 x := by
  simp [Lit.wf, IntKind.min, IntKind.max, IntKind.signed, IntKind.bits] at h
  omega

theorem nows_zero (u a k : Nat) (h : a + k ≤ u) : nows (List.replicate u zeroS) (fun _ => none) a k = List.replicate (16 * k) 0 := by
  rw [← flat_zero]
  unfold nows
  congr 1
  apply List.ext_getElem
  · simp
  · intro i h1 h2
    simp only [List.length_map, List.length_range] at h1
    simp only [List.getElem_map, List.getElem_range, List.getElem_replicate, now, Option.getD_none]
    rw [List.getD_eq_getElem?_getD, List.getElem?_replicate, if_pos (by omega)]
    rfl

attribute [local go_sem high] run_max2 run_min2

set_option maxHeartbeats 2000000 in
set_option maxRecDepth 100000 in
theorem sizesW (n x y : Int) (s3 : ByteArray) (w : World) (wn : (Lit.int .i64 n).wf = true) (wx : (Lit.int .i64 x).wf = true) (wy : (Lit.int .i64 y).wf = true) (ws : s3.size ≤ maxLen) :
    Calls Try.prog 4 #[.int .i64 n, .int .i64 x, .int .i64 y, .string s3] w fun e w' => e = .returned (.bool true) ∧ KeptIn (· < w.heap.size) w w' := by
  obtain ⟨l, rfl⟩ : ∃ l : List UInt8, s3 = ⟨l.toArray⟩ := ⟨s3.data.toList, (Lib.mk_data s3).symm⟩
  have hl : l.length ≤ maxLen := by rwa [show (⟨l.toArray⟩ : ByteArray).size = l.length from List.size_toArray ..] at ws
  have HL := Lib.hid hl
  have b2 : (l.length : Int) ≤ 9223372036854775807 := by unfold maxLen at hl; omega
  have IX := Lib.hid (i64_of_wf wx); have IY := Lib.hid (i64_of_wf wy)
  clear wn wx wy ws hl
  obtain ⟨u, hu⟩ : ∃ u : Nat, min (max n 0) 16384 = (u : Int) := ⟨(min (max n 0) 16384).toNat, by omega⟩
  have HU : Hid (min (max n 0) 16384 = (u : Int) ∧ u ≤ 16384) := Lib.hid ⟨hu, by omega⟩
  go_enter Try.func4, Try.ntmps4
  go_wp2_with (go_at_call 6; refine (awake4 w).mono ?_)
  rintro e wa ⟨rfl, ka⟩
  have KA := Lib.hid ka; clear ka
  by_cases h0 : (l.length : Int) > 200
  · go_wp2
    go_ret
    exact ⟨rfl, KA.out⟩
  have h0' : (l.length : Int) ≤ 200 := by omega
  clear h0
  go_wp2_with (go_at_call 7; refine (vNew (w := w) wa KA.out).mono ?_)
  rintro e wb ⟨m, rfl, hp1, hm1, hk1⟩
  have C2 := Lib.hid (vMade (w := w) wb hk1 hp1 hm1 n u hu)
  clear hp1 hm1 hk1 KA
  go_wp2_with (go_at_call 16; refine C2.out.mono ?_)
  rintro e wc ⟨d, s, b, rfl, hd⟩
  obtain ⟨S, hS⟩ : ∃ S, List.replicate u zeroS = S := ⟨_, rfl⟩
  rw [hS] at hd
  obtain ⟨img, himg⟩ : ∃ i, List.replicate (16 * u) (0 : UInt8) = i := ⟨_, rfl⟩
  have hfl : S.flatten = img := by rw [← hS, flat_zero, himg]
  have HS : Hid (S = List.replicate u zeroS ∧ S.length = u) := Lib.hid ⟨hS.symm, by rw [← hS]; simp⟩
  have CZ : Hid (∀ V, Calls Try.prog 17 #[.int .i64 n] V fun e w' => e = .returned (.string ⟨img.toArray⟩) ∧ KeptIn (· < V.heap.size) V w') := Lib.hid fun V => by
    have := r4Zeros n u V HU.out.1
    rwa [himg] at this
  have cl := dLen d m s b 0 S (fun _ => none) wc hd.isD
  rw [HS.out.2] at cl
  have ci := vImage hd
  rw [hfl] at ci
  have CL := Lib.hid cl; have CI := Lib.hid ci
  clear hS hfl himg cl ci hd C2
  go_wp2_with (go_at_call 15; refine CL.out.mono ?_)
  rintro e wd ⟨rfl, rfl⟩
  go_wp2_with (go_at_call 13; refine CI.out.mono ?_)
  rintro e we ⟨rfl, hd⟩
  have HD := Lib.hid hd; clear hd CL CI
  go_wp2_with (go_at_call 17; refine (CZ.out _).mono ?_)
  rintro e wf ⟨rfl, hk⟩
  have HD2 := Lib.hid (HD.out.old hk)
  clear hk HD CZ
  obtain ⟨f, hf⟩ : ∃ f, fits u x y = f := ⟨_, rfl⟩
  obtain ⟨T, E, hT, hE, CR⟩ : ∃ (T : List UInt8) (E : Int), (f = true → T = List.replicate (16 * y.toNat) 0 ∧ E = 0) ∧ (f = false → T = [] ∧ E = 9) ∧
      Calls Try.prog 18 #[.pointer (some ⟨d, 0, none⟩), .int .i64 x, .int .i64 y] wf fun e w' => e = .returned (.tuple #[.string ⟨T.toArray⟩, .int .i64 E]) ∧ Dv w d m s b 0 pw0 S (fun _ => none) w' := by
    have hd := HD2.out
    cases f with
    | true =>
      have hb : 0 ≤ x ∧ 0 ≤ y ∧ x ≤ (u : Int) - y := by simpa [fits, and_assoc] using hf
      refine ⟨List.replicate (16 * y.toNat) 0, 0, fun _ => ⟨rfl, rfl⟩, fun h => (by cases h), ?_⟩
      have := vRead hd rfl x x.toNat y.toNat (by omega) (by rw [HS.out.2]; omega)
      rw [HS.out.1, nows_zero u x.toNat y.toNat (by omega), ← HS.out.1, show ((y.toNat : Nat) : Int) = y by omega] at this
      exact this
    | false =>
      refine ⟨[], 9, fun h => (by cases h), fun _ => ⟨rfl, rfl⟩, ?_⟩
      refine (dReadRange d m s b 0 S (fun _ => none) x y wf hd.isD IX.out IY.out (by rw [HS.out.2]; exact hf)).mono ?_
      rintro e w' ⟨rfl, rfl⟩
      exact ⟨rfl, hd⟩
  have HF := Lib.hid hf; have HT := Lib.hid hT; have HE := Lib.hid hE; have HCR := Lib.hid CR
  clear hf hT hE CR HD2
  go_wp2_with (go_at_call 18; refine HCR.out.mono ?_)
  rintro e wg ⟨rfl, hd⟩
  have HD3 := Lib.hid hd
  clear hd HCR
  clear hu
  have hu2 : u ≤ 16384 := HU.out.2
  go_upto_region 10 with fail
  go_cut [13] from 19 (fun s13 wx => s13 = .bool f ∧ wx = wg)
  case first =>
    by_cases hx : x < 0
    · have e : f = false := by rw [← HF.out]; simp [fits]; omega
      subst e
      go_wp2_with fail
      go_meet
      case rel => exact ⟨rfl, rfl⟩
    · have hx0 : 0 ≤ x := by omega
      clear hx
      by_cases hy : y < 0
      · have e : f = false := by rw [← HF.out]; simp [fits]; omega
        subst e
        go_wp2_with fail
        go_meet
        case rel => exact ⟨rfl, rfl⟩
      · have hy0 : 0 ≤ y := by omega
        clear hy
        by_cases hxu : (u : Int) < x
        · have e : f = false := by rw [← HF.out]; simp [fits]; omega
          subst e
          go_wp2_with fail
          go_meet
          case rel => exact ⟨rfl, rfl⟩
        · have hxu' : x ≤ (u : Int) := by omega
          clear hxu
          have HY : Hid (f = decide (y ≤ (u : Int) - x)) := Lib.hid (by
            rw [← HF.out]
            simp only [fits, decide_eq_true hx0, decide_eq_true hy0, Bool.true_and]
            exact decide_eq_decide.2 (by omega))
          go_wp2_with fail
          go_meet
          case rel => exact ⟨by rw [HY.out], rfl⟩
  case rest =>
    obtain ⟨rfl, rfl⟩ := hcut
    go_upto_region 11 with fail
    go_cut [94] from 19 (fun s94 wx => s94 = .bool false ∧ Hid (Dv w d m s b 0 pw0 S (fun _ => none) wx))
    case first =>
      cases f with
      | true =>
        obtain ⟨h1, h2⟩ := HT.out rfl
        have hb : 0 ≤ x ∧ 0 ≤ y ∧ x ≤ (u : Int) - y := by simpa [fits, and_assoc] using HF.out
        have CZ2 : Hid (∀ V, Calls Try.prog 17 #[.int .i64 y] V fun e w' => e = .returned (.string ⟨T.toArray⟩) ∧ KeptIn (· < V.heap.size) V w') := Lib.hid fun V => by
          have := r4Zeros y y.toNat V (by omega)
          rwa [← h1] at this
        subst h2
        clear h1 hb
        go_wp2_with (go_at_call 17; refine (CZ2.out _).mono ?_; rintro e wh ⟨rfl, hk⟩)
        go_meet
        case rel => exact ⟨rfl, Lib.hid (HD3.out.old hk)⟩
      | false =>
        obtain ⟨h1, h2⟩ := HE.out rfl
        subst h1; subst h2
        go_wp2_with fail
        go_meet
        case rel => exact ⟨rfl, HD3⟩
    case rest =>
      obtain ⟨rfl, HD4⟩ := hcut
      clear HT HE HD3 HF
      obtain ⟨f2, hf2⟩ : ∃ f2, fits u x ((l.length / 16 : Nat) : Int) = f2 := ⟨_, rfl⟩
      obtain ⟨E2, hA, hZ, CW⟩ : ∃ E2 : Int, (l.length % 16 ≠ 0 → E2 = 1) ∧ (l.length % 16 = 0 → E2 = if f2 = true then 0 else 9) ∧
          Calls Try.prog 19 #[.pointer (some ⟨d, 0, none⟩), .int .i64 x, .string ⟨l.toArray⟩] wc fun e w' => e = .returned (.int .i64 E2) ∧ KeptIn (· < w.heap.size) w w' := by
        have hd := HD4.out
        by_cases hm : l.length % 16 = 0
        · have hn : l.length = 16 * (l.length / 16) := by omega
          cases f2 with
          | true =>
            have hb : 0 ≤ x ∧ x ≤ (u : Int) - ((l.length / 16 : Nat) : Int) := by
              have h := hf2
              simp only [fits, Bool.and_eq_true, decide_eq_true_eq] at h
              exact ⟨h.1.1, h.2⟩
            refine ⟨0, fun h => absurd hm h, fun _ => by rw [if_pos rfl], ?_⟩
            refine (vWrite hd x l (l.length / 16) HL.out hn (by rw [HS.out.2]; exact hf2) (by unfold maxLen; omega)).mono ?_
            rintro e w' ⟨rfl, h1⟩
            have e1 : ∀ (k : Nat) (p : Pw), p.free → (Pw.go k p).1 = k := by
              intro k
              induction k with
              | zero => intro p _; rfl
              | succ k ih => intro p hp; rw [Pw.go, hp.can, if_pos rfl, ih _ hp.use]
            exact ⟨by rw [e1 _ pw0 ⟨rfl, rfl⟩, if_pos rfl], h1.kept⟩
          | false =>
            refine ⟨9, fun h => absurd hm h, fun _ => by rw [if_neg (by simp)], ?_⟩
            refine (dWriteRange d m s b 0 S (fun _ => none) x l (l.length / 16) wc hd.isD IX.out HL.out hn (by rw [HS.out.2]; exact hf2)).mono ?_
            rintro e w' ⟨rfl, rfl⟩
            exact ⟨rfl, hd.kept⟩
        · refine ⟨1, fun _ => rfl, fun h => absurd h hm, ?_⟩
          refine (dWriteArg d x l wc HL.out hm).mono ?_
          rintro e w' ⟨rfl, rfl⟩
          exact ⟨rfl, hd.kept⟩
      have HF2 := Lib.hid hf2; have HA := Lib.hid hA; have HZ := Lib.hid hZ; have HCW := Lib.hid CW
      clear hf2 hA hZ CW HD4 HS
      go_upto_if 102 with (go_at_call 19; refine HCW.out.mono ?_; rintro e wh ⟨rfl, hk⟩)
      have HK := Lib.hid hk
      clear hk HCW
      go_cut [] from 19 (fun wx => wx = wh)
      case first =>
        by_cases hm : l.length % 16 = 0
        · have h1 : (l.length : Int) % 16 = 0 := by omega
          have H2 := Lib.hid (HZ.out hm)
          obtain ⟨q, hq⟩ : ∃ q : Nat, l.length / 16 = q := ⟨_, rfl⟩
          have h3 : (l.length : Int) / 16 = (q : Int) := by omega
          have HQ : Hid (fits u x (q : Int) = f2) := Lib.hid (by rw [← hq]; exact HF2.out)
          have q0 : (q : Int) ≤ 200 := by omega
          clear hm hq
          go_upto_region 17 with fail
          go_cut [15] from 19 (fun s15 wx => s15 = .bool f2 ∧ wx = wh)
          case first =>
            by_cases hx : x < 0
            · have e : f2 = false := by rw [← HQ.out]; simp [fits]; omega
              subst e
              go_wp2_with fail
              go_meet
              case rel => exact ⟨rfl, rfl⟩
            · have hx0 : 0 ≤ x := by omega
              clear hx
              by_cases hxu : (u : Int) < x
              · have e : f2 = false := by rw [← HQ.out]; simp [fits]; omega
                subst e
                go_wp2_with fail
                go_meet
                case rel => exact ⟨rfl, rfl⟩
              · have hxu' : x ≤ (u : Int) := by omega
                clear hxu
                have HY : Hid (f2 = decide ((q : Int) ≤ (u : Int) - x)) := Lib.hid (by
                  rw [← HQ.out]
                  simp only [fits, decide_eq_true hx0, decide_eq_true (show (0 : Int) ≤ (q : Int) by omega), Bool.true_and]
                  exact decide_eq_decide.2 (by omega))
                go_wp2_with fail
                go_meet
                case rel => exact ⟨by rw [HY.out], rfl⟩
          case rest =>
            obtain ⟨rfl, rfl⟩ := hcut
            cases f2 with
            | true =>
              have h2 := H2.out
              rw [if_pos rfl] at h2
              subst h2
              go_wp2_with fail
              go_meet
              case rel => rfl
            | false =>
              have h2 := H2.out
              rw [if_neg (by simp)] at h2
              subst h2
              go_wp2_with fail
              go_meet
              case rel => rfl
        · have h1 : ¬ ((l.length : Int) % 16 = 0) := by omega
          have h2 := HA.out hm
          subst h2
          go_wp2_with fail
          go_meet
          case rel => rfl
      case rest =>
        subst hcut
        clear HA HZ HF2
        go_wp2_with (first
          | (go_at_call 18; refine (dReadNil _ _ _).mono ?_; rintro e v ⟨rfl, rfl⟩)
          | (go_at_call 19; refine (dWriteNil _ _ _).mono ?_; rintro e v ⟨rfl, rfl⟩)
          | (go_at_call 20; refine (dFlushNil _).mono ?_; rintro e v ⟨rfl, rfl⟩)
          | (go_at_call 21; refine (dSettleNil _ _).mono ?_; rintro e v ⟨rfl, rfl⟩)
          | (go_at_call 15; refine (dLenNil _).mono ?_; rintro e v ⟨rfl, rfl⟩)
          | (go_at_call 13; refine (dImageNil _).mono ?_; rintro e v ⟨rfl, rfl⟩)
          | (go_at_call 11; refine (dLooseNil _).mono ?_; rintro e v ⟨rfl, rfl⟩))
        go_ret
        exact ⟨rfl, HK.out⟩

end Go.Proofs.Ytbgkfeikfkbfmaa
