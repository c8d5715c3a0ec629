/- Levels of heats: the program's, the document's; what a chunk in a variable of its own is. -/
import Derived.Test.YtjhmcfhbjfjmkaaIt16
import Derived.Test.YtjhmcfhbjfjmkaaShelf
import Derived.WalkSpells
import Derived.WalkLawsBesides
import Derived.RegionTactic
import Derived.Outline
import Derived.Deep.QuietTactic
import Derived.BigRegion
import Derived.Lib.Hide
import Derived.BigQuiet
import Derived.Deep.RegionHeld3
import Derived.LoopTactic
set_option linter.unusedVariables false
namespace Go.Proofs.Ytjhmcfhbjfjmkaa
open Go.RowKit

theorem run_max2f {P : Program} {w : World} (ts : Array TypeId) (t : TypeId) (k k' : IntKind) (x y : Int) : (Builtin.max_ ts t #[.int k x, .int k' y]).run P w = .ok (.int k (max x y)) w := by
  rw [run_max_int2]
  congr 2
  split <;> omega
theorem run_min2f {P : Program} {w : World} (ts : Array TypeId) (t : TypeId) (k k' : IntKind) (x y : Int) : (Builtin.min_ ts t #[.int k x, .int k' y]).run P w = .ok (.int k (min x y)) w := by
  rw [run_min_int2]
  congr 2
  split <;> omega
attribute [local go_sem high] run_min2f run_max2f

theorem bit_step (n : Nat) : Lib.bitLen n = min 64 (Lib.bitLenAux 64 n) ∨ True := .inr trivial
theorem bit_aux (f x : Nat) : Lib.bitLenAux (f + 1) x = if x = 0 then 0 else 1 + Lib.bitLenAux f (x / 2) := rfl
theorem bit_lv (x : Int) (h0 : 0 < x) : min ((Lib.bitLen x.toNat : Nat) : Int) 7 = (lv x : Int) := by
  obtain ⟨n, rfl⟩ : ∃ n : Nat, x = n := ⟨x.toNat, by omega⟩
  rw [Int.toNat_natCast]
  unfold Lib.bitLen
  simp only [bit_aux 63, bit_aux 62, bit_aux 61, bit_aux 60, bit_aux 59, bit_aux 58, bit_aux 57]
  generalize Lib.bitLenAux 57 (n / 2 / 2 / 2 / 2 / 2 / 2 / 2) = r
  unfold lv
  (repeat' split) <;> omega
theorem lv_num (x : Int) (h0 : 0 < x) (hw : (Lit.int .i64 x).wf = true) : IntKind.u64.wrap x = x := by
  have := bounds_i64 hw
  rw [IntKind.wrap_u64]
  omega

set_option maxRecDepth 100000 in
theorem rkLevel (x : Int) (hx : (Lit.int .i64 x).wf = true) (w : World) :
    Calls Try.prog 8 #[.int .i64 x] w fun e w' => e = .returned (.int .i64 (lv x : Int)) ∧ w' = w := by
  by_cases h : x ≤ 0
  · rw [lv_none x h]
    go_enter Try.func8, Try.ntmps8
    go_wp2_with fail
    go_ret
    exact ⟨rfl, rfl⟩
  · have hb := bit_lv x (by omega)
    have hn := lv_num x (by omega) hx
    have bx := bounds_i64 hx
    have C := Lib.hid (Try.bits_Len x w (by omega) (by omega))
    obtain ⟨r, hr⟩ : ∃ r, Lib.bitLen x.toNat = r := ⟨_, rfl⟩
    obtain ⟨v, hv⟩ : ∃ v, lv x = v := ⟨_, rfl⟩
    rw [hr] at C hb
    rw [hv] at hb ⊢
    clear bx hr hv hx
    go_enter Try.func8, Try.ntmps8
    go_wp2_with fail
    refine C.out.mono ?_
    rintro e _ ⟨rfl, rfl⟩
    clear C
    go_wp2_with fail
    go_ret
    exact ⟨rfl, rfl⟩

theorem lv_dbl (j : Nat) (h : j ≤ 7) : wrap64 ((2 : Int) ^ j * 2) = 2 ^ (j + 1) := by
  match j, h with
  | 0, _ | 1, _ | 2, _ | 3, _ | 4, _ | 5, _ | 6, _ | 7, _ => decide +kernel
theorem lv_inc (j : Nat) (h : j ≤ 7) : wrap64 ((j : Int) + 1) = ((j + 1 : Nat) : Int) := by unfold wrap64; omega
set_option maxRecDepth 100000 in
theorem r16Level (x : Int) (w : World) :
    Calls Try.prog 9 #[.int .i64 x] w fun e w' => e = .returned (.int .i64 (lv x : Int)) ∧ w' = w := by
  obtain ⟨v, hv⟩ : ∃ v, lv x = v := ⟨_, rfl⟩
  have HV := Lib.hid hv
  rw [hv]
  clear hv
  go_enter Try.func9, Try.ntmps9
  go_wp2_with fail
  go_loopw [3, 4] (fun n k wr => ∃ (j : Nat) (p : Int) (W : World), W = wr ∧ wr = w ∧ j ≤ 7 ∧ n = .int .i64 (j : Int) ∧ k = .int .i64 p ∧ Hid (p = 2 ^ j ∧ (j = 0 ∨ 2 ^ (j - 1) ≤ x))) (fun n _ _ => 7 - (intOf n).toNat)
  case atStart => exact ⟨0, 1, _, rfl, by trivial, by omega, rfl, rfl, Lib.hid ⟨rfl, .inl rfl⟩⟩
  case round =>
    obtain ⟨j, p, W, rfl, rfl, hj, rfl, rfl, HJ⟩ := hrel
    by_cases h7 : j < 7
    · have d1 : (j : Int) < 7 := by omega
      by_cases hp : p ≤ x
      · have i1 := lv_inc j hj
        have i2 := lv_dbl j hj
        rw [← HJ.out.1] at i2
        obtain ⟨q, hq⟩ : ∃ q : Int, 2 ^ (j + 1) = q := ⟨_, rfl⟩
        rw [hq] at i2
        have HJ2 : Hid (q = 2 ^ (j + 1) ∧ (j + 1 = 0 ∨ 2 ^ (j + 1 - 1) ≤ x)) := Lib.hid ⟨hq.symm, .inr (by rw [show j + 1 - 1 = j from rfl, ← HJ.out.1]; exact hp)⟩
        clear HJ hq
        go_wp2_with fail
        go_roundw
        case rel => exact ⟨j + 1, q, _, rfl, by trivial, by omega, by first | rfl | rw [i1], by first | rfl | rw [i2], HJ2⟩
        case measure => simp only [intOf]; omega
      · have d2 : decide (p ≤ x) = false := decide_eq_false hp
        have he : v = j := by rw [← HV.out]; exact lv_at hj HJ.out.2 (.inr (by rw [← HJ.out.1]; omega))
        subst he
        clear HJ HV
        go_wp2_with fail
        go_ret
        exact ⟨rfl, rfl⟩
    · obtain rfl : j = 7 := by omega
      have he : v = 7 := by rw [← HV.out]; exact lv_at hj HJ.out.2 (.inl rfl)
      subst he
      clear HJ HV
      go_wp2_with fail
      go_ret
      exact ⟨rfl, rfl⟩

end Go.Proofs.Ytjhmcfhbjfjmkaa
