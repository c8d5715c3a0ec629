/- tiercelaw04.DiscFlushed: it answers true whatever the input; what was there stands. -/
import Derived.Test.YtbgkfeikfkbfmaaAw4
import Derived.Test.YtbgkfeikfkbfmaaFl4
import Derived.Test.YtbgkfeikfkbfmaaArgs
set_option linter.unusedVariables false
namespace Go.Proofs.Ytbgkfeikfkbfmaa
open Go.RowKit

theorem IsRow.byte {w W : World} {a : Option Addr} {len cap : Nat} {zs : List Int} (h : IsRow .u8 w a len cap zs) (hk : KeptIn (· < w.heap.size) w W) {i : Nat} (hi : i < len) :
    ∃ b off, a = some ⟨b, off, none⟩ ∧ W.cell? ⟨b, off + i, none⟩ = some (.int .u8 ((byAt zs i).toNat : Int)) := by
  obtain ⟨b, off, ha, hb, hc⟩ := h.elem (by omega)
  obtain ⟨h1, h2⟩ := hc i hi
  exact ⟨b, off, ha, by rw [World.cell?_of_block (a := ⟨b, off + i, none⟩) (hk.block b hb), h1, byAt_val zs i h2]⟩



set_option maxHeartbeats 2000000 in
set_option maxRecDepth 100000 in
theorem flushedW (a0 : Option Addr) (len0 cap0 : Nat) (z0 : List Int) (a1 : Option Addr) (len1 cap1 : Nat) (z1 : List Int) (s2 : ByteArray) (w : World) (w0 : IsRow .u8 w a0 len0 cap0 z0) (w1 : IsRow .u8 w a1 len1 cap1 z1) (w2 : s2.size ≤ maxLen) :
    Calls Try.prog 5 #[.slice a0 len0 cap0, .slice a1 len1 cap1, .string s2] w fun e w' => e = .returned (.bool true) ∧ KeptIn (· < w.heap.size) w w' := by
  have l0 := w0.len_le; have l1 := w1.len_le
  unfold maxLen at l0 l1
  obtain ⟨l, rfl⟩ : ∃ l : List UInt8, s2 = ⟨l.toArray⟩ := ⟨s2.data.toList, (Lib.mk_data s2).symm⟩
  have hl : l.length ≤ maxLen := by rwa [show (⟨l.toArray⟩ : ByteArray).size = l.length from List.size_toArray ..] at w2
  have HL := Lib.hid hl
  have b2 : (l.length : Int) ≤ 9223372036854775807 := by unfold maxLen at hl; omega
  have W0 := Lib.hid w0; have W1 := Lib.hid w1
  clear w0 w1 w2 hl
  go_enter Try.func5, Try.ntmps5
  go_wp2_with (go_at_call 6; refine (awake4 w).mono ?_)
  rintro e wa ⟨rfl, ka⟩
  have KA := Lib.hid ka; clear ka
  by_cases h0 : (len0 : Int) > 40
  · go_wp2
    go_ret
    exact ⟨rfl, KA.out⟩
  by_cases h1 : (len1 : Int) > 40
  · have h0' : (len0 : Int) ≤ 40 := by omega
    clear h0
    go_wp2
    go_ret
    exact ⟨rfl, KA.out⟩
  by_cases h2 : (l.length : Int) > 20
  · have h0' : (len0 : Int) ≤ 40 := by omega
    have h1' : (len1 : Int) ≤ 40 := by omega
    clear h0 h1
    go_wp2
    go_ret
    exact ⟨rfl, KA.out⟩
  have h0' : (len0 : Int) ≤ 40 := by omega
  have h1' : (len1 : Int) ≤ 40 := by omega
  have h2' : (l.length : Int) ≤ 20 := by omega
  clear h0 h1 h2
  go_wp2_with (go_at_call 7; refine (vNew (w := w) wa KA.out).mono ?_)
  rintro e wb ⟨m, rfl, hp1, hm1, hk1⟩
  have C2 := Lib.hid (vMade (w := w) wb hk1 hp1 hm1 40 40 (by decide))
  clear hp1 hm1 hk1 KA
  go_wp2_with (go_at_call 16; refine C2.out.mono ?_)
  rintro e wc ⟨d, s, k, rfl, hd⟩
  obtain ⟨S0, hS0⟩ : ∃ S0, List.replicate 40 zeroS = S0 := ⟨_, rfl⟩
  rw [hS0, ← solids_zero z0] at hd
  have HS0 : Hid (S0.length = 40 ∧ ∀ i, i < 40 → S0.getD i [] = solid 0) := Lib.hid (by
    rw [← hS0]
    refine ⟨by simp, fun i hi => ?_⟩
    rw [List.getD_eq_getElem?_getD, List.getElem?_replicate, if_pos hi]
    rfl)
  have HJ0 : Hid (pw0.free ∧ Dv w d m s k 0 pw0 S0 (solids z0 0) wc) := Lib.hid ⟨⟨rfl, rfl⟩, hd⟩
  clear hS0 hd C2
  go_wp2_with fail
  go_loopw [9] (fun c wr => ∃ (j : Nat) (p : Pw) (W : World), W = wr ∧ j ≤ len0 ∧ c = .int .i64 j ∧ Hid (p.free ∧ Dv w d m s k j p S0 (solids z0 j) W)) (fun c _ => len0 - (RowKit.intOf c).toNat)
  case atStart => exact ⟨0, pw0, wc, rfl, Nat.zero_le _, rfl, HJ0⟩
  case round =>
    obtain ⟨j, p, W, rfl, hj, rfl, HJ⟩ := hrel
    clear HJ0
    by_cases hlt : j < len0
    · have i0 : (0 : Int) ≤ (j : Int) := by omega
      have i1 : (j : Int) < (len0 : Int) := by omega
      obtain ⟨bb, off, rfl, hc⟩ := W0.out.byte HJ.out.2.kept hlt
      go_wp2_with (go_at_call 22; refine (lSector _ _).mono ?_)
      rintro e W2 ⟨rfl, hk2⟩
      have C3 := Lib.hid (vWriteOne (HJ.out.2.old hk2) HJ.out.1 (by rw [HS0.out.1]; omega) (by omega))
      have HF := Lib.hid HJ.out.1.use
      clear hk2 hc HJ
      go_wp2_with (go_at_call 19; refine C3.out.mono ?_)
      rintro e W3 ⟨rfl, hd3⟩
      have HJ2 : Hid (p.use.free ∧ Dv w d m s k (j + 1) p.use S0 (solids z0 (j + 1)) W3) := Lib.hid ⟨HF.out, hd3⟩
      clear hd3 C3 HF
      go_wp2_with fail
      go_roundw
      case rel => exact ⟨j + 1, _, _, rfl, by omega, by go_num, HJ2⟩
      case measure => simp [RowKit.intOf]; omega
    · obtain rfl : len0 = j := by omega
      have CF := Lib.hid (vFlushOn HJ.out.2 HJ.out.1.can)
      have HF := Lib.hid HJ.out.1.use
      clear HJ
      go_wp2_with (go_at_call 20; refine CF.out.mono ?_)
      rintro e W1' ⟨rfl, hd1⟩
      obtain ⟨S1, hS1⟩ : ∃ S1, flushed S0 (solids z0 len0) = S1 := ⟨_, rfl⟩
      rw [hS1] at hd1
      have HS1 : Hid (S1.length = 40 ∧ ∀ i, i < 40 → S1.getD i [] = if i < len0 then solid (byAt z0 i) else solid 0) := Lib.hid (by
        rw [← hS1]
        refine ⟨by simp [flushed, HS0.out.1], fun i hi => ?_⟩
        rw [flushed, HS0.out.1, List.getD_eq_getElem?_getD, List.getElem?_map, List.getElem?_range hi]
        show now S0 (solids z0 len0) i = _
        rw [now_solids, HS0.out.2 i hi])
      have HD1 := Lib.hid hd1
      clear hS1 hd1 CF HS0
      go_wp2_with (go_at_call 11; refine (vLoose HD1.out).mono ?_)
      rintro e W2' ⟨v, rfl, hv, hd2⟩
      rw [places_none] at hv
      obtain ⟨a7, cap7, rfl, _⟩ := hv.shape
      have HJ0 : Hid (p.use.free ∧ Dv w d m s k 0 p.use S1 (solids z1 0) W2') := Lib.hid ⟨HF.out, by rw [solids_zero]; exact hd2⟩
      clear hv hd2 HD1 HF
      go_wp2_with fail
      go_loopw [10] (fun c wr => ∃ (j : Nat) (p : Pw) (W : World), W = wr ∧ j ≤ len1 ∧ c = .int .i64 j ∧ Hid (p.free ∧ Dv w d m s k j p S1 (solids z1 j) W)) (fun c _ => len1 - (RowKit.intOf c).toNat)
      case atStart => exact ⟨0, _, _, rfl, Nat.zero_le _, rfl, HJ0⟩
      case round =>
        obtain ⟨j, p, W, rfl, hj, rfl, HJ⟩ := hrel
        clear HJ0
        by_cases hlt : j < len1
        · have i0 : (0 : Int) ≤ (j : Int) := by omega
          have i1 : (j : Int) < (len1 : Int) := by omega
          obtain ⟨bb, off, rfl, hc⟩ := W1.out.byte HJ.out.2.kept hlt
          go_wp2_with (go_at_call 22; refine (lSector _ _).mono ?_)
          rintro e W2 ⟨rfl, hk2⟩
          have C3 := Lib.hid (vWriteOne (HJ.out.2.old hk2) HJ.out.1 (by rw [HS1.out.1]; omega) (by omega))
          have HF := Lib.hid HJ.out.1.use
          clear hk2 hc HJ
          go_wp2_with (go_at_call 19; refine C3.out.mono ?_)
          rintro e W3 ⟨rfl, hd3⟩
          have HJ2 : Hid (p.use.free ∧ Dv w d m s k (j + 1) p.use S1 (solids z1 (j + 1)) W3) := Lib.hid ⟨HF.out, hd3⟩
          clear hd3 C3 HF
          go_wp2_with fail
          go_roundw
          case rel => exact ⟨j + 1, _, _, rfl, by omega, by go_num, HJ2⟩
          case measure => simp [RowKit.intOf]; omega
        · obtain rfl : len1 = j := by omega
          have CC := Lib.hid (vCut HJ.out.2)
          clear HJ
          go_wp2_with (go_at_call 23; refine CC.out.mono ?_)
          rintro e W3 ⟨rfl, hd3⟩
          have cs := vSettle hd3 rfl l HL.out
          obtain ⟨S2, hS2⟩ : ∃ S2, settle l (solids z1 len1) (places S1.length (solids z1 len1)) 0 S1 = S2 := ⟨_, rfl⟩
          rw [hS2] at cs
          have HS2 : Hid (S2.length = 40 ∧ ∀ i, i < 40 → S2.getD i [] = if i < len1 ∧ keepBit l i = true then solid (byAt z1 i) else if i < len0 then solid (byAt z0 i) else solid 0) := Lib.hid (by
            rw [← hS2]
            refine ⟨by rw [settle_length]; exact HS1.out.1, fun i hi => ?_⟩
            rw [HS1.out.1, places_solids z1 len1 40 (by omega), range_eq, settle_solids l z1 len1 len1 0 S1 (by omega) (by rw [HS1.out.1]; omega), HS1.out.2 i hi]
            simp)
          have CS := Lib.hid cs
          clear cs hS2 hd3 CC HS1
          go_wp2_with (go_at_call 21; refine CS.out.mono ?_)
          rintro e W4 ⟨rfl, hd4⟩
          have CM := Lib.hid (vCome hd4)
          clear hd4 CS
          go_wp2_with (go_at_call 24; refine CM.out.mono ?_)
          rintro e W5 ⟨rfl, hd5⟩
          have HJ0 : Hid (p.cut.come.on = true ∧ Dv w d m s k 0 p.cut.come S2 (fun _ => none) W5) := Lib.hid ⟨rfl, hd5⟩
          generalize p.cut.come = q at HJ0
          clear hd5 CM
          go_wp2_with fail
          go_loopw [11] (fun c wr => ∃ (i : Nat) (W : World), W = wr ∧ i ≤ 40 ∧ c = .int .i64 i ∧ Hid (q.on = true ∧ Dv w d m s k 0 q S2 (fun _ => none) W)) (fun c _ => 40 - (RowKit.intOf c).toNat)
          case atStart => exact ⟨0, _, rfl, Nat.zero_le _, rfl, HJ0⟩
          case round =>
            obtain ⟨i, W, rfl, hi, rfl, HJ⟩ := hrel
            clear HJ0
            by_cases hlt : i < 40
            · have i0 : (0 : Int) ≤ (i : Int) := by omega
              have i1 : (i : Int) < 40 := by omega
              have cr := vRead HJ.out.2 HJ.out.1 (i : Int) i 1 rfl (by rw [HS2.out.1]; omega)
              obtain ⟨t, ht⟩ : ∃ t, nows S2 (fun _ => none) i 1 = t := ⟨_, rfl⟩
              rw [ht] at cr
              have hT : t = if i < len1 ∧ keepBit l i = true then solid (byAt z1 i) else if i < len0 then solid (byAt z0 i) else solid 0 := by
                rw [← ht, nows_one]
                exact HS2.out.2 i hlt
              have CR := Lib.hid cr
              have HON := Lib.hid HJ.out.1
              clear cr ht HJ
              go_wp2_with (go_at_call 18; refine CR.out.mono ?_)
              rintro e W6 ⟨rfl, hd6⟩
              have HD6 := Lib.hid hd6
              clear hd6 CR
              by_cases hb0 : i < len0
              · have j0 : (i : Int) < (len0 : Int) := by omega
                obtain ⟨o, ho⟩ : ∃ o, solid (byAt z0 i) = o := ⟨_, rfl⟩
                rw [if_pos hb0, ho] at hT
                have HT := Lib.hid hT
                have sO := fun V => lSector (byAt z0 i) V
                rw [ho] at sO
                have SO := Lib.hid sO
                clear sO ho hT
                go_wp2_with (go_at_call 22; refine (lSector 0 _).mono ?_)
                rintro e W7 ⟨rfl, hk7⟩
                have HD7 := Lib.hid (HD6.out.old hk7)
                clear hk7 HD6
                obtain ⟨bb, off, rfl, hc⟩ := W0.out.byte HD7.out.kept hb0
                go_wp2_with (go_at_call 22; refine (SO.out _).mono ?_)
                rintro e W8 ⟨rfl, hk8⟩
                have HD8 := Lib.hid (HD7.out.old hk8)
                clear hk8 HD7 SO hc
                by_cases hb1 : i < len1
                · have j1 : (i : Int) < (len1 : Int) := by omega
                  obtain ⟨y, hy⟩ : ∃ y, solid (byAt z1 i) = y := ⟨_, rfl⟩
                  have hT := HT.out
                  rw [hy] at hT
                  have sY := fun V => lSector (byAt z1 i) V
                  rw [hy] at sY
                  have SY := Lib.hid sY
                  clear sY hy
                  obtain ⟨bb, off, rfl, hc⟩ := W1.out.byte HD8.out.kept hb1
                  by_cases hto : t = o
                  · subst hto
                    clear hT HT
                    go_wp2_with (go_at_call 22; refine (SY.out _).mono ?_)
                    rintro e W9 ⟨rfl, hk9⟩
                    have HD9 := Lib.hid (HD8.out.old hk9)
                    clear hk9 HD8 SY hc
                    cases hl0 : (l == [])
                    · have HJ2 : Hid (q.on = true ∧ Dv w d m s k 0 q S2 (fun _ => none) _) := Lib.hid ⟨HON.out, HD9.out⟩
                      clear HD9
                      go_wp2_with fail
                      go_roundw
                      case rel => exact ⟨i + 1, _, rfl, by omega, by go_num, HJ2⟩
                      case measure => simp [RowKit.intOf]; omega
                    · have HJ2 : Hid (q.on = true ∧ Dv w d m s k 0 q S2 (fun _ => none) _) := Lib.hid ⟨HON.out, HD9.out⟩
                      clear HD9
                      go_wp2_with fail
                      go_roundw
                      case rel => exact ⟨i + 1, _, rfl, by omega, by go_num, HJ2⟩
                      case measure => simp [RowKit.intOf]; omega
                  · have hk : keepBit l i = true := by
                      cases h : keepBit l i with
                      | true => rfl
                      | false => rw [h, if_neg (by simp)] at hT; exact absurd hT hto
                    rw [if_pos ⟨hb1, hk⟩] at hT
                    subst hT
                    have hne : (t == o) = false := beq_eq_false_iff_ne.2 hto
                    have hl0 : (l == []) = false := by
                      cases l with
                      | nil => cases hk
                      | cons => rfl
                    clear hto hk HT
                    go_wp2_with (go_at_call 22; refine (SY.out _).mono ?_)
                    rintro e W9 ⟨rfl, hk9⟩
                    have HD9 := Lib.hid (HD8.out.old hk9)
                    clear hk9 HD8 SY hc
                    have HJ2 : Hid (q.on = true ∧ Dv w d m s k 0 q S2 (fun _ => none) _) := Lib.hid ⟨HON.out, HD9.out⟩
                    clear HD9
                    go_wp2_with fail
                    go_roundw
                    case rel => exact ⟨i + 1, _, rfl, by omega, by go_num, HJ2⟩
                    case measure => simp [RowKit.intOf]; omega
                · have j1 : (len1 : Int) ≤ (i : Int) := by omega
                  have hT := HT.out
                  rw [if_neg (fun h => hb1 h.1)] at hT
                  subst hT
                  have HD9 := Lib.hid HD8.out
                  clear HD8 HT
                  cases hl0 : (l == [])
                  · have HJ2 : Hid (q.on = true ∧ Dv w d m s k 0 q S2 (fun _ => none) _) := Lib.hid ⟨HON.out, HD9.out⟩
                    clear HD9
                    go_wp2_with fail
                    go_roundw
                    case rel => exact ⟨i + 1, _, rfl, by omega, by go_num, HJ2⟩
                    case measure => simp [RowKit.intOf]; omega
                  · have HJ2 : Hid (q.on = true ∧ Dv w d m s k 0 q S2 (fun _ => none) _) := Lib.hid ⟨HON.out, HD9.out⟩
                    clear HD9
                    go_wp2_with fail
                    go_roundw
                    case rel => exact ⟨i + 1, _, rfl, by omega, by go_num, HJ2⟩
                    case measure => simp [RowKit.intOf]; omega
              · have j0 : (len0 : Int) ≤ (i : Int) := by omega
                obtain ⟨o, ho⟩ : ∃ o, solid 0 = o := ⟨_, rfl⟩
                rw [if_neg hb0, ho] at hT
                have HT := Lib.hid hT
                have sO := fun V => lSector 0 V
                rw [ho] at sO
                have SO := Lib.hid sO
                clear sO ho hT
                go_wp2_with (go_at_call 22; refine (SO.out _).mono ?_)
                rintro e W8 ⟨rfl, hk8⟩
                have HD8 := Lib.hid (HD6.out.old hk8)
                clear hk8 HD6 SO
                by_cases hb1 : i < len1
                · have j1 : (i : Int) < (len1 : Int) := by omega
                  obtain ⟨y, hy⟩ : ∃ y, solid (byAt z1 i) = y := ⟨_, rfl⟩
                  have hT := HT.out
                  rw [hy] at hT
                  have sY := fun V => lSector (byAt z1 i) V
                  rw [hy] at sY
                  have SY := Lib.hid sY
                  clear sY hy
                  obtain ⟨bb, off, rfl, hc⟩ := W1.out.byte HD8.out.kept hb1
                  by_cases hto : t = o
                  · subst hto
                    clear hT HT
                    go_wp2_with (go_at_call 22; refine (SY.out _).mono ?_)
                    rintro e W9 ⟨rfl, hk9⟩
                    have HD9 := Lib.hid (HD8.out.old hk9)
                    clear hk9 HD8 SY hc
                    cases hl0 : (l == [])
                    · have HJ2 : Hid (q.on = true ∧ Dv w d m s k 0 q S2 (fun _ => none) _) := Lib.hid ⟨HON.out, HD9.out⟩
                      clear HD9
                      go_wp2_with fail
                      go_roundw
                      case rel => exact ⟨i + 1, _, rfl, by omega, by go_num, HJ2⟩
                      case measure => simp [RowKit.intOf]; omega
                    · have HJ2 : Hid (q.on = true ∧ Dv w d m s k 0 q S2 (fun _ => none) _) := Lib.hid ⟨HON.out, HD9.out⟩
                      clear HD9
                      go_wp2_with fail
                      go_roundw
                      case rel => exact ⟨i + 1, _, rfl, by omega, by go_num, HJ2⟩
                      case measure => simp [RowKit.intOf]; omega
                  · have hk : keepBit l i = true := by
                      cases h : keepBit l i with
                      | true => rfl
                      | false => rw [h, if_neg (by simp)] at hT; exact absurd hT hto
                    rw [if_pos ⟨hb1, hk⟩] at hT
                    subst hT
                    have hne : (t == o) = false := beq_eq_false_iff_ne.2 hto
                    have hl0 : (l == []) = false := by
                      cases l with
                      | nil => cases hk
                      | cons => rfl
                    clear hto hk HT
                    go_wp2_with (go_at_call 22; refine (SY.out _).mono ?_)
                    rintro e W9 ⟨rfl, hk9⟩
                    have HD9 := Lib.hid (HD8.out.old hk9)
                    clear hk9 HD8 SY hc
                    have HJ2 : Hid (q.on = true ∧ Dv w d m s k 0 q S2 (fun _ => none) _) := Lib.hid ⟨HON.out, HD9.out⟩
                    clear HD9
                    go_wp2_with fail
                    go_roundw
                    case rel => exact ⟨i + 1, _, rfl, by omega, by go_num, HJ2⟩
                    case measure => simp [RowKit.intOf]; omega
                · have j1 : (len1 : Int) ≤ (i : Int) := by omega
                  have hT := HT.out
                  rw [if_neg (fun h => hb1 h.1)] at hT
                  subst hT
                  have HD9 := Lib.hid HD8.out
                  clear HD8 HT
                  cases hl0 : (l == [])
                  · have HJ2 : Hid (q.on = true ∧ Dv w d m s k 0 q S2 (fun _ => none) _) := Lib.hid ⟨HON.out, HD9.out⟩
                    clear HD9
                    go_wp2_with fail
                    go_roundw
                    case rel => exact ⟨i + 1, _, rfl, by omega, by go_num, HJ2⟩
                    case measure => simp [RowKit.intOf]; omega
                  · have HJ2 : Hid (q.on = true ∧ Dv w d m s k 0 q S2 (fun _ => none) _) := Lib.hid ⟨HON.out, HD9.out⟩
                    clear HD9
                    go_wp2_with fail
                    go_roundw
                    case rel => exact ⟨i + 1, _, rfl, by omega, by go_num, HJ2⟩
                    case measure => simp [RowKit.intOf]; omega
            · obtain rfl : i = 40 := by omega
              have cr := vRead HJ.out.2 HJ.out.1 0 0 40 rfl (by rw [HS2.out.1]; decide)
              have e40 : nows S2 (fun _ => none) 0 40 = S2.flatten := by rw [← HS2.out.1]; exact nows_none S2
              rw [e40] at cr
              obtain ⟨t, ht⟩ : ∃ t, S2.flatten = t := ⟨_, rfl⟩
              rw [ht] at cr
              have CR := Lib.hid cr
              have HT := Lib.hid ht
              clear cr ht e40 HJ
              go_wp2_with (go_at_call 18; refine CR.out.mono ?_)
              rintro e W6 ⟨rfl, hd6⟩
              have ci := vImage hd6
              rw [HT.out] at ci
              have CI := Lib.hid ci
              clear hd6 CR ci
              go_wp2_with (go_at_call 13; refine CI.out.mono ?_)
              rintro e W7 ⟨rfl, hd7⟩
              have HD7 := Lib.hid hd7
              clear hd7 CI
              go_wp2_with (go_at_call 11; refine (vLoose HD7.out).mono ?_)
              rintro e W8 ⟨v, rfl, hv, hd8⟩
              rw [places_none] at hv
              obtain ⟨a8, cap8, rfl, _⟩ := hv.shape
              have HK := Lib.hid hd8.kept
              clear hv hd8 HD7
              go_wp2
              go_ret
              exact ⟨rfl, HK.out⟩

end Go.Proofs.Ytbgkfeikfkbfmaa
