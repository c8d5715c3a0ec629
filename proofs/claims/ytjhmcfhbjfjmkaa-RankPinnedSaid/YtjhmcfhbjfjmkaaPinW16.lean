/- RankPinned. -/
import Derived.Test.YtjhmcfhbjfjmkaaPm16
set_option linter.unusedVariables false
namespace Go.Proofs.Ytjhmcfhbjfjmkaa
open Go.RowKit

attribute [local go_sem high] run_min2f run_max2f

set_option maxHeartbeats 4000000 in
set_option maxRecDepth 100000 in
theorem pinnedW16 (a0 : Option Addr) (len0 cap0 : Nat) (room n : Int) (w : World) (w0 : IsIts16 w a0 len0) (w1 : (Lit.int .i64 room).wf = true) (w2 : (Lit.int .i64 n).wf = true) :
    Calls Try.prog 4 #[.slice a0 len0 cap0, .int .i64 room, .int .i64 n] w fun e w' => e = .returned (.bool true) ∧ KeptIn (· < w.heap.size) w w' := by
  obtain ⟨l, hl, hi⟩ := w0.list
  have CA := Lib.hid (awake16 w)
  have HI := Lib.hid hi
  have HL := Lib.hid hl
  clear w0 w1 w2 hi hl
  go_enter Try.func4, Try.ntmps4
  go_wp2_with fail
  refine CA.out.mono ?_
  rintro e W ⟨rfl, hk⟩
  have HK := Lib.hid hk
  clear CA hk
  by_cases h40 : 40 < len0
  · have z1 : decide ((40 : Int) < (len0 : Int)) = true := decide_eq_true (by omega)
    have z2 : (40 : Int) < (len0 : Int) := by omega
    go_wp2_with fail
    go_ret
    exact ⟨rfl, HK.out⟩
  have z1 : decide ((40 : Int) < (len0 : Int)) = false := decide_eq_false (by omega)
  have z2 : ¬ (40 : Int) < (len0 : Int) := by omega
  have hl2 : l.length ≤ 1000 := by rw [HL.out]; omega
  have CF := formW16 a0 cap0 l W (HI.out.old HK.out) hl2
  rw [HL.out] at CF
  have HCF := Lib.hid CF
  clear CF
  go_wp2_with fail
  refine HCF.out.mono ?_
  rintro e W2 hF
  have k2 := HK.out.on16 hF.2
  rcases hF.1 with rfl | ⟨a3, c3, rfl, _, hR⟩
  · have HK2 := Lib.hid k2
    clear hF k2 HCF HK
    go_wp2_with fail
    go_ret
    exact ⟨rfl, HK2.out⟩
  have HK2 := Lib.hid k2
  have HR := Lib.hid hR
  have CW := rkWants a0 cap0 l room n W2 (HI.out.old HK2.out) hl2
  rw [HL.out] at CW
  obtain ⟨r, hr⟩ : ∃ r, wn l room n = r := ⟨_, rfl⟩
  rw [hr] at CW
  obtain ⟨c, t, b⟩ := r
  have HCW := Lib.hid CW
  have HWN := Lib.hid hr
  clear hF k2 HCF HK CW hr hR hl2
  go_wp2_with fail
  refine HCW.out.mono ?_
  rintro e W3 ⟨rfl, k3⟩
  have HK3 := Lib.hid (HK2.out.on16 k3)
  have hnI : (len0 : Int) ≤ 40 := by omega
  clear HCW HK2 k3 z1 z2
  go_wp2_with fail
  go_loopw [12, 13] (fun ws i wr => ∃ (j : Nat), wr = W3 ∧ j ≤ len0 ∧ i = .int .i64 (j : Int) ∧ ws = .bool ((l.take j).any wt16)) (fun _ i _ => len0 - (intOf i).toNat)
  case atStart => exact ⟨0, rfl, Nat.zero_le _, rfl, rfl⟩
  case round =>
    obtain ⟨j, rfl, hj, rfl, rfl⟩ := hrel
    by_cases hlt : j < len0
    · have d0 : (0 : Int) ≤ (j : Int) := by omega
      have d1 : (j : Int) < (len0 : Int) := by omega
      have hjl : j < l.length := by rw [HL.out]; exact hlt
      obtain ⟨b0, off, rfl, hb, hc⟩ := (HI.out.old HK3.out).cells (by omega)
      have hcj := hc j hjl
      have hT := take_snoc16 l j hjl
      obtain ⟨x, hx⟩ : ∃ x, l[j] = x := ⟨_, rfl⟩
      rw [hx] at hcj hT
      obtain ⟨c1, c2, c3, c4, c5⟩ := hcj
      have hA : (l.take (j + 1)).any wt16 = ((l.take j).any wt16 || wt16 x) := by rw [hT]; simp
      obtain ⟨q, hq⟩ : ∃ q, (l.take j).any wt16 = q := ⟨_, rfl⟩
      rw [hq] at hA ⊢
      have HA := Lib.hid hA
      clear hc hb hjl hx hT hA hq
      have hb2 : (x.ti == 0) = decide (x.ti = 0) := by
        by_cases h : x.ti = 0
        · simp [h]
        · have : (x.ti == 0) = false := by rw [beq_eq_false_iff_ne]; exact h
          rw [this]; simp [h]
      have hval : ∀ v : Bool, v = (q || wt16 x) → Value.bool v = Value.bool ((l.take (j + 1)).any wt16) := fun v h => by rw [HA.out, h]
      have HV := Lib.hid hval
      clear hval
      cases q with
      | true =>
        go_wp2_with fail
        go_roundw
        case rel => exact ⟨j + 1, by trivial, by omega, by go_num, HV.out _ rfl⟩
        case measure => simp only [intOf]; omega
      | false =>
        cases hp : x.pn with
        | false =>
          rw [hp] at c4
          go_wp2_with fail
          go_roundw
          case rel => exact ⟨j + 1, by trivial, by omega, by go_num, HV.out _ (by unfold wt16; rw [hp]; rfl)⟩
          case measure => simp only [intOf]; omega
        | true =>
          rw [hp] at c4
          cases hu : x.bu with
          | true =>
            rw [hu] at c5
            go_wp2_with fail
            go_roundw
            case rel => exact ⟨j + 1, by trivial, by omega, by go_num, HV.out _ (by unfold wt16; rw [hp, hu]; rfl)⟩
            case measure => simp only [intOf]; omega
          | false =>
            rw [hu] at c5
            go_wp2_with fail
            go_roundw
            case rel => exact ⟨j + 1, by trivial, by omega, by go_num, HV.out _ (by unfold wt16; rw [hp, hu, ← hb2]; rfl)⟩
            case measure => simp only [intOf]; omega
    · have d1 : ¬ (j : Int) < (len0 : Int) := by omega
      obtain rfl : j = len0 := by omega
      have htk : l.take j = l := List.take_of_length_le (by rw [HL.out]; exact Nat.le_refl _)
      rw [htk]
      clear htk
      have hwn := HWN.out
      cases b with
      | false =>
        obtain ⟨rfl, rfl, h3⟩ := wn_no HR.out.1 hwn
        obtain ⟨q, hq⟩ : ∃ q, l.any wt16 = q := ⟨_, rfl⟩
        rw [hq] at h3 ⊢
        clear hwn HWN hq HR HI
        cases q with
        | false =>
          clear h3
          go_wp2_with fail
          go_ret
          exact ⟨rfl, HK3.out⟩
        | true =>
          have z3 : decide (0 < room) = false := decide_eq_false (h3 rfl)
          clear h3
          go_wp2_with fail
          go_ret
          exact ⟨rfl, HK3.out⟩
      | true =>
        obtain ⟨y, hy, hyc, hyb, hyw⟩ := wn_yes HR.out.1 hwn
        obtain ⟨q, hq⟩ : ∃ q, l.any wt16 = q := ⟨_, rfl⟩
        rw [hq] at hyw ⊢
        have HY := Lib.hid (And.intro hy (And.intro hyc (And.intro hyb hyw)))
        clear hwn HWN hq hy hyc hyb hyw
        go_wp2_with fail
        go_loopw [14] (fun i wr2 => ∃ (k : Nat), wr2 = wr ∧ k ≤ j ∧ i = .int .i64 (k : Int) ∧ Hid (∀ i (h : i < l.length), i < k → l[i].ch ≠ c)) (fun i _ => j - (intOf i).toNat)
        case atStart => exact ⟨0, rfl, Nat.zero_le _, rfl, Lib.hid fun i _ h => absurd h (Nat.not_lt_zero i)⟩
        case round =>
          obtain ⟨k, rfl, hk, rfl, HN⟩ := hrel
          by_cases hlt2 : k < j
          · have e0 : (0 : Int) ≤ (k : Int) := by omega
            have e1 : (k : Int) < (j : Int) := by omega
            have hkl : k < l.length := by rw [HL.out]; exact hlt2
            obtain ⟨b0, off, rfl, hb, hc⟩ := (HI.out.old HK3.out).cells (by omega)
            have hck := hc k hkl
            have hin : l[k].ch = y.ch → l[k] = y := fun e => by
              obtain ⟨i2, h2, e2⟩ := List.getElem_of_mem HY.out.1
              rw [← e2] at e
              have := HR.out.inj hkl h2 e
              subst this
              exact e2
            have hN2 : l[k].ch ≠ c → ∀ i (h : i < l.length), i < k + 1 → l[i].ch ≠ c := fun e i h hi => by
              by_cases h2 : i = k
              · subst h2; exact e
              · exact HN.out i h (by omega)
            have hgx := HI.out.good l[k] (List.getElem_mem hkl)
            obtain ⟨x, hx⟩ : ∃ x, l[k] = x := ⟨_, rfl⟩
            rw [hx] at hck hin hN2 hgx
            obtain ⟨c1, c2, c3, c4, c5⟩ := hck
            by_cases hch : x.ch = c
            · obtain rfl : x = y := hin (by rw [hch, HY.out.2.1])
              have hb0 := HY.out.2.2.1
              have hyw := HY.out.2.2.2
              have HLv := Lib.hid (rkLevel x.he hgx.2.1)
              have z0 : (x.ch != c) = false := by rw [hch]; simp
              rw [hb0] at c5
              obtain ⟨v, hv⟩ : ∃ v, lv x.he = v := ⟨_, rfl⟩
              rw [hv] at HLv hyw
              clear hc hb hkl hx hin hN2 hgx hch HY HN HR HI HL hb0 hv
              rcases hyw with ⟨rfl, ht, hr, hw⟩ | ⟨rfl, ht, hp, hr⟩
              · rw [ht] at c3
                have z1 : decide (0 < room) = true := decide_eq_true hr
                cases hpn : x.pn with
                | true =>
                  rw [hpn] at c4
                  clear hw HLv
                  go_wp2_with fail
                  go_ret
                  exact ⟨rfl, HK3.out⟩
                | false =>
                  rw [hpn] at c4
                  rcases hw with h | ⟨rfl, h2⟩
                  · rw [hpn] at h; cases h
                  have z2 : decide ((2 : Int) ≤ (v : Int)) = true := decide_eq_true (by omega)
                  have z3 : decide (2 ≤ v) = true := decide_eq_true h2
                  clear h2
                  go_wp2_with fail
                  refine (HLv.out _).mono ?_
                  rintro e _ ⟨rfl, rfl⟩
                  go_wp2_with fail
                  go_ret
                  exact ⟨rfl, HK3.out⟩
              · rw [ht] at c3
                rw [hp] at c4
                have z1 : decide (room ≤ 0) = true := decide_eq_true (by omega)
                clear hr HLv
                go_wp2_with fail
                go_ret
                exact ⟨rfl, HK3.out⟩
            · have z0 : (x.ch != c) = true := by rw [bne_iff_ne]; exact hch
              have HN2 := Lib.hid (hN2 hch)
              clear hc hb hkl hx hin hN2 hgx hch
              go_wp2_with fail
              go_roundw
              case rel => exact ⟨k + 1, by trivial, by omega, by go_num, HN2⟩
              case measure => simp only [intOf]; omega
          · exfalso
            obtain ⟨i2, h2, e2⟩ := List.getElem_of_mem HY.out.1
            exact HN.out i2 h2 (by have := HL.out; omega) (by rw [e2]; exact HY.out.2.1)

end Go.Proofs.Ytjhmcfhbjfjmkaa
