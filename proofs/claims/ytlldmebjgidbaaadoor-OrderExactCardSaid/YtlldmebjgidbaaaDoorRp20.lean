/- The document's answers for orders: digits of two kinds as digits of one. -/
import Derived.Test.YtlldmebjgidbaaaDoorRd20
set_option linter.unusedVariables false
set_option linter.unusedSimpArgs false
namespace Go.Proofs.YtlldmebjgidbaaaDoor
open Go.RowKit

theorem drop_at {α : Type} {l : List α} {j : Nat} {x : α} (h : l[j]? = some x) : l.drop j = x :: l.drop (j + 1) := by
  have hj := (List.getElem?_eq_some_iff.1 h).1
  rw [List.drop_eq_getElem_cons hj]
  congr 1
  rw [List.getElem?_eq_getElem hj] at h
  exact Option.some.inj h
theorem u8_plain (c : UInt8) (h : 144 ≤ c.toNat ∧ c.toNat ≤ 153) : ((48 + (c.toNat : Int)) % 256 - 144) % 256 = (((UInt8.ofNat (c.toNat - 96)).toNat : Nat) : Int) := by
  have e : (UInt8.ofNat (c.toNat - 96)).toNat = c.toNat - 96 := by simp; omega
  rw [e]
  omega
theorem wrap_two (j : Nat) (h : j ≤ 1000000) : wrap64 ((j : Int) + 2) = ((j + 2 : Nat) : Int) := by unfold wrap64; omega
theorem wrap_three (j : Nat) (h : j ≤ 1000000) : wrap64 ((j : Int) + 2 + 1) = ((j + 3 : Nat) : Int) := by unfold wrap64; omega
theorem drop_get {l : List UInt8} {j : Nat} {c : UInt8} (h : l[j + 2]? = some c) : (l.drop (j + 1)).getD 1 0 = c := by
  simp only [List.getD, List.getElem?_drop]
  rw [show j + 1 + 1 = j + 2 by omega, h]
  rfl
theorem ms_step3 {j nn : Nat} {x : Int} (h : j + 2 < nn) (e : x = ((j + 3 : Nat) : Int)) : nn - (RowKit.intOf (.int .i64 x)).toNat < nn - (RowKit.intOf (.int .i64 (j : Int))).toNat := by
  subst e
  simp only [RowKit.intOf, Int.toNat_natCast]
  omega

set_option maxRecDepth 1000000 in
set_option maxHeartbeats 4000000 in
theorem rPlain (l : List UInt8) (hbig : l.length ≤ 100000) (w : World) :
    Calls Tryd.prog 46 #[.string ⟨l.toArray⟩] w fun e w' => e = .returned (.string ⟨(pl l).toArray⟩) ∧ KeptIn (· < w.heap.size) w w' := by
  go_enter Tryd.func46, Tryd.ntmps46
  go_wp2_with fail
  go_loopw [3, 4] (fun v i wr => ∃ (j : Nat) (out : List UInt8) (V : World), V = wr ∧ v = .string ⟨out.toArray⟩ ∧ i = .int .i64 (j : Int) ∧ Hid (j ≤ l.length ∧ KeptIn (· < w.heap.size) w V ∧ out ++ pl (l.drop j) = pl l ∧ out.length ≤ j)) (fun _ i _ => l.length - (RowKit.intOf i).toNat)
  case atStart => exact ⟨0, [], _, rfl, rfl, rfl, Nat.zero_le _, .refl _ _, by simp, by simp⟩
  case round =>
    obtain ⟨j, out, V, rfl, rfl, rfl, H⟩ := hrel
    obtain ⟨hj, hK, hD, hol⟩ := H.out
    clear H
    by_cases hp : j < l.length
    · obtain ⟨c, hc⟩ : ∃ c, l[j]? = some c := ⟨_, List.getElem?_eq_getElem hp⟩
      have hbx := str_byte l j c hc
      have hct := ex_one l j c hc
      have d1 : decide ((j : Int) < (l.length : Int)) = true := decide_eq_true (by omega)
      have d2 : (j : Int) < (l.length : Int) := by omega
      have d3 : (0 : Int) ≤ (j : Int) := by omega
      have d4 : decide (j < l.length) = true := decide_eq_true hp
      have hw1 := wrap_succ j (by omega)
      have hw2 := wrap_two j (by omega)
      have hls : out.length ≤ 1000000 := by omega
      have hdr := drop_at hc
      rw [hdr] at hD
      by_cases h2 : j + 2 < l.length
      · obtain ⟨c1, hc1⟩ : ∃ c, l[j + 1]? = some c := ⟨_, List.getElem?_eq_getElem (by omega)⟩
        obtain ⟨c2, hc2⟩ : ∃ c, l[j + 2]? = some c := ⟨_, List.getElem?_eq_getElem h2⟩
        have hb1 := str_byte l (j + 1) c1 hc1
        have hb2 := str_byte l (j + 2) c2 hc2
        have g2 : ((j + 2 : Nat) : Int) < (l.length : Int) := by omega
        have g3 : decide (((j + 2 : Nat) : Int) < (l.length : Int)) = true := decide_eq_true g2
        have g4 : decide ((j : Int) + 2 < (l.length : Int)) = true := decide_eq_true (by omega)
        have g5 : decide (j + 2 < l.length) = true := decide_eq_true h2
        have g6 : (j : Int) + 2 < (l.length : Int) := by omega
        have g7 : (j : Int) + 1 < (l.length : Int) := by omega
        have hisW : isW (c :: l.drop (j + 1)) = decide (c.toNat = 239 ∧ c1.toNat = 188 ∧ 144 ≤ c2.toNat ∧ c2.toNat ≤ 153) := by
          unfold isW
          have e1 : (c :: l.drop (j + 1)).getD 1 0 = c1 := by simp [List.getD, hc1]
          have e2 : (c :: l.drop (j + 1)).getD 2 0 = c2 := by
            simp only [List.getD, List.getElem?_cons_succ, List.getElem?_drop]
            rw [show j + 1 + 1 = j + 2 by omega, hc2]
            rfl
          have e0 : (c :: l.drop (j + 1)).getD 0 0 = c := rfl
          rw [e0, e1, e2]
          congr 1
          apply propext
          have : 2 < (c :: l.drop (j + 1)).length := by simp; omega
          exact ⟨fun h => h.2, fun h => ⟨this, h⟩⟩
        have b0 : ((c.toNat : Int) == 239) = decide (c.toNat = 239) := by rw [Bool.eq_iff_iff]; simp; omega
        have b1 : ((c1.toNat : Int) == 188) = decide (c1.toNat = 188) := by rw [Bool.eq_iff_iff]; simp; omega
        have b2 : decide ((144 : Int) ≤ (c2.toNat : Int)) = decide (144 ≤ c2.toNat) := by congr 1; apply propext; omega
        have b3 : decide ((c2.toNat : Int) ≤ 153) = decide (c2.toNat ≤ 153) := by congr 1; apply propext; omega
        have b2' : decide ((c2.toNat : Int) ≥ 144) = decide (144 ≤ c2.toNat) := b2
        replace hl := Lib.hid hol
        replace hK := Lib.hid hK
        have hp2 := Lib.hid h2
        replace hp := Lib.hid hp
        have hnar : Hid (isW (c :: l.drop (j + 1)) = false → pl (c :: l.drop (j + 1)) = c :: pl (l.drop (j + 1))) := Lib.hid fun h => by rw [pl_cons, if_neg (by rw [h]; simp)]
        have hD' : Hid (out ++ pl (c :: l.drop (j + 1)) = pl l) := Lib.hid hD
        have g8 : (0 : Int) ≤ (j : Int) + 2 := by omega
        have g9 : (0 : Int) ≤ (j : Int) + 1 := by omega
        replace hc2 := Lib.hid hc2
        clear hD hdr hol hc hc1 hj
        by_cases k0 : c.toNat = 239
        · rw [decide_eq_true k0] at b0
          by_cases k1 : c1.toNat = 188
          · rw [decide_eq_true k1] at b1
            by_cases k2 : 144 ≤ c2.toNat
            · rw [decide_eq_true k2] at b2 b2'
              by_cases k3 : c2.toNat ≤ 153
              · rw [decide_eq_true k3] at b3
                have hy := u8_plain c2 ⟨k2, k3⟩
                have hpl3 : Hid (pl (c :: l.drop (j + 1)) = UInt8.ofNat (c2.toNat - 96) :: pl (l.drop (j + 3))) := Lib.hid (by
                  have hww : isW (c :: l.drop (j + 1)) = true := by rw [hisW]; exact decide_eq_true ⟨k0, k1, k2, k3⟩
                  rw [pl_cons, if_pos hww, List.drop_drop, drop_get hc2.out])
                obtain ⟨y, hyy⟩ : ∃ y, UInt8.ofNat (c2.toNat - 96) = y := ⟨_, rfl⟩
                rw [hyy] at hy hpl3
                have hcv := conv_1 y V
                have hw4 := wrap_three j (by omega)
                clear hisW hnar hct k0 k1 k2 k3 hyy
                go_wp2_with fail
                go_roundw
                case rel =>
                  refine ⟨j + 3, out ++ [y], _, rfl, congrArg Value.string (app_of out [y]), by first | rfl | exact congrArg (Value.int .i64) hw4, by have := hp2.out; omega, hK.out.alloc (fun _ h => h) _, ?_, ?_⟩
                  · rw [List.append_assoc, List.singleton_append, ← hpl3.out]
                    exact hD'.out
                  · rw [List.length_append]
                    have := hl.out
                    simp
                    omega
                case measure => first | exact ms_step3 hp2.out rfl | exact ms_step3 hp2.out hw4
              · rw [decide_eq_false k3] at b3
                have hN := Lib.hid (hnar.out (by rw [hisW]; exact decide_eq_false (fun h => k3 h.2.2.2)))
                clear hisW hnar
                go_wp2_with fail
                go_roundw
                case rel =>
                  refine ⟨j + 1, out ++ [c], _, rfl, ?_, by first | rfl | exact congrArg (Value.int .i64) hw1, hp.out, hK.out, ?_, ?_⟩
                  · first | rfl | exact congrArg Value.string (app_of out [c])
                  · rw [List.append_assoc, List.singleton_append, ← hN.out]
                    exact hD'.out
                  · rw [List.length_append]
                    have := hl.out
                    simp
                    omega
                case measure => first | exact ms_step hp.out rfl | exact ms_step hp.out hw1
            · rw [decide_eq_false k2] at b2 b2'
              have hN := Lib.hid (hnar.out (by rw [hisW]; exact decide_eq_false (fun h => k2 h.2.2.1)))
              clear hisW hnar b3
              go_wp2_with fail
              go_roundw
              case rel =>
                refine ⟨j + 1, out ++ [c], _, rfl, ?_, by first | rfl | exact congrArg (Value.int .i64) hw1, hp.out, hK.out, ?_, ?_⟩
                · first | rfl | exact congrArg Value.string (app_of out [c])
                · rw [List.append_assoc, List.singleton_append, ← hN.out]
                  exact hD'.out
                · rw [List.length_append]
                  have := hl.out
                  simp
                  omega
              case measure => first | exact ms_step hp.out rfl | exact ms_step hp.out hw1
          · rw [decide_eq_false k1] at b1
            have hN := Lib.hid (hnar.out (by rw [hisW]; exact decide_eq_false (fun h => k1 h.2.1)))
            clear hisW hnar b2 b2' b3
            go_wp2_with fail
            go_roundw
            case rel =>
              refine ⟨j + 1, out ++ [c], _, rfl, ?_, by first | rfl | exact congrArg (Value.int .i64) hw1, hp.out, hK.out, ?_, ?_⟩
              · first | rfl | exact congrArg Value.string (app_of out [c])
              · rw [List.append_assoc, List.singleton_append, ← hN.out]
                exact hD'.out
              · rw [List.length_append]
                have := hl.out
                simp
                omega
            case measure => first | exact ms_step hp.out rfl | exact ms_step hp.out hw1
        · rw [decide_eq_false k0] at b0
          have hN := Lib.hid (hnar.out (by rw [hisW]; exact decide_eq_false (fun h => k0 h.1)))
          clear hisW hnar b1 b2 b2' b3
          go_wp2_with fail
          go_roundw
          case rel =>
            refine ⟨j + 1, out ++ [c], _, rfl, ?_, by first | rfl | exact congrArg (Value.int .i64) hw1, hp.out, hK.out, ?_, ?_⟩
            · first | rfl | exact congrArg Value.string (app_of out [c])
            · rw [List.append_assoc, List.singleton_append, ← hN.out]
              exact hD'.out
            · rw [List.length_append]
              have := hl.out
              simp
              omega
          case measure => first | exact ms_step hp.out rfl | exact ms_step hp.out hw1
      · have g3 : decide (((j + 2 : Nat) : Int) < (l.length : Int)) = false := decide_eq_false (by omega)
        have g4 : decide ((j : Int) + 2 < (l.length : Int)) = false := decide_eq_false (by omega)
        have g5 : decide (j + 2 < l.length) = false := decide_eq_false h2
        have hN : Hid (pl (c :: l.drop (j + 1)) = c :: pl (l.drop (j + 1))) := Lib.hid (by
          rw [pl_cons, if_neg]
          intro h
          have := (of_decide_eq_true h).1
          simp at this
          omega)
        have hD' : Hid (out ++ pl (c :: l.drop (j + 1)) = pl l) := Lib.hid hD
        replace hl := Lib.hid hol
        replace hK := Lib.hid hK
        replace hp := Lib.hid hp
        clear hD hdr hol hc hj h2
        go_wp2_with fail
        go_roundw
        case rel =>
          refine ⟨j + 1, out ++ [c], _, rfl, ?_, by first | rfl | exact congrArg (Value.int .i64) hw1, hp.out, hK.out, ?_, ?_⟩
          · first | rfl | exact congrArg Value.string (app_of out [c])
          · rw [List.append_assoc, List.singleton_append, ← hN.out]
            exact hD'.out
          · rw [List.length_append]
            have := hl.out
            simp
            omega
        case measure => first | exact ms_step hp.out rfl | exact ms_step hp.out hw1
    · obtain rfl : j = l.length := by omega
      have d1 : decide ((l.length : Int) < (l.length : Int)) = false := decide_eq_false (by omega)
      rw [List.drop_length, pl_nil, List.append_nil] at hD
      subst hD
      replace hK := Lib.hid hK
      go_wp2_with fail
      go_ret
      exact ⟨rfl, hK.out⟩

end Go.Proofs.YtlldmebjgidbaaaDoor
