/- Owners: cmp.Compare, cmp.Or; how the program compares owners. -/
import Derived.Test.YtononiedecpllaaOr13
import Derived.WalkKit
import Derived.WalkSpells
import Derived.WalkLawsBesides
import Derived.RegionTactic
import Derived.Outline
import Derived.Deep.QuietTactic
import Derived.BigQuiet
import Derived.BigRegion
import Derived.Deep.RegionHeld3
import Derived.Deep.RegionWith
import Derived.Deep.RegionLaw
import Derived.LoopTactic
import Derived.Lib.Hide
set_option linter.unusedVariables false
namespace Go.Proofs.Ytononiedecpllaa
open Go.RowKit

theorem cNaN (x : Int) (w : World) : Calls Try.prog 48 #[.int .i64 x] w fun e w' => e = .returned (.bool false) ∧ w = w' := by
  go_enter Try.func48, Try.ntmps48
  go_wp2
  go_ret
  exact ⟨by simp, rfl⟩

theorem cCmp (x y : Int) (w : World) : Calls Try.prog 42 #[.int .i64 x, .int .i64 y] w fun e w' => e = .returned (.int .i64 (cmpI x y)) ∧ w = w' := by
  have N := Lib.hid fun z V => cNaN z V
  obtain ⟨r, hr⟩ : ∃ r, cmpI x y = r := ⟨_, rfl⟩
  rw [hr]
  by_cases h1 : x < y
  · obtain rfl : r = -1 := by rw [← hr, cmpI, if_pos h1]
    clear hr
    go_enter Try.func42, Try.ntmps42
    go_wp2_with (go_at_call 48; refine (N.out _ _).mono ?_; rintro e _ ⟨rfl, rfl⟩)
    go_ret
    exact ⟨rfl, rfl⟩
  · by_cases h2 : y < x
    · obtain rfl : r = 1 := by rw [← hr, cmpI, if_neg h1, if_pos h2]
      clear hr
      go_enter Try.func42, Try.ntmps42
      go_wp2_with (go_at_call 48; refine (N.out _ _).mono ?_; rintro e _ ⟨rfl, rfl⟩)
      go_ret
      exact ⟨rfl, rfl⟩
    · obtain rfl : r = 0 := by rw [← hr, cmpI, if_neg h1, if_neg h2]
      clear hr
      go_enter Try.func42, Try.ntmps42
      go_wp2_with (go_at_call 48; refine (N.out _ _).mono ?_; rintro e _ ⟨rfl, rfl⟩)
      go_ret
      exact ⟨rfl, rfl⟩

/-- The first of three that isn't 0. -/
def or3 (x y z : Int) : Int := if x = 0 then (if y = 0 then z else y) else x
theorem cOr (x y z : Int) (g : Nat) (w : World) (h0 : w.cell? ⟨g, 0, none⟩ = some (.int .i64 x)) (h1 : w.cell? ⟨g, 1, none⟩ = some (.int .i64 y)) (h2 : w.cell? ⟨g, 2, none⟩ = some (.int .i64 z)) :
    Calls Try.prog 41 #[.slice (some ⟨g, 0, none⟩) 3 3] w fun e w' => e = .returned (.int .i64 (or3 x y z)) ∧ w = w' := by
  obtain ⟨r, hr⟩ : ∃ r, or3 x y z = r := ⟨_, rfl⟩
  rw [hr]
  have HR := Lib.hid hr
  have H := Lib.hid (And.intro h0 (And.intro h1 h2))
  clear hr h0 h1 h2
  go_enter Try.func41, Try.ntmps41
  go_wp2_with fail
  go_loopw [5, 8] (fun _ c wr => ∃ (j : Nat) (V : World), V = wr ∧ wr = w ∧ j ≤ 3 ∧ c = .int .i64 j ∧ Hid ((0 < j → x = 0) ∧ (1 < j → y = 0) ∧ (2 < j → z = 0))) (fun _ c _ => 3 - (RowKit.intOf c).toNat)
  case atStart => exact ⟨0, _, rfl, by trivial, by omega, rfl, Lib.hid ⟨by omega, by omega, by omega⟩⟩
  case round =>
    obtain ⟨j, V, rfl, rfl, hj, rfl, HJ⟩ := hrel
    by_cases hlt : j < 3
    · have d0 : (0 : Int) ≤ (j : Int) := by omega
      have d1 : (j : Int) < 3 := by omega
      have key : ∃ t, V.cell? ⟨g, j, none⟩ = some (.int .i64 t) ∧ (t ≠ 0 → r = t) ∧ (t = 0 → ((0 < j + 1 → x = 0) ∧ (1 < j + 1 → y = 0) ∧ (2 < j + 1 → z = 0))) := by
        have e := HR.out
        unfold or3 at e
        rcases (by omega : j = 0 ∨ j = 1 ∨ j = 2) with rfl | rfl | rfl
        · exact ⟨x, H.out.1, fun h => by rw [← e, if_neg h], fun h => ⟨fun _ => h, by omega, by omega⟩⟩
        · have hx := HJ.out.1 (by omega)
          exact ⟨y, H.out.2.1, fun h => by rw [← e, if_pos hx, if_neg h], fun h => ⟨fun _ => hx, fun _ => h, by omega⟩⟩
        · have hx := HJ.out.1 (by omega)
          have hy := HJ.out.2.1 (by omega)
          exact ⟨z, H.out.2.2, fun h => by rw [← e, if_pos hx, if_pos hy], fun h => ⟨fun _ => hx, fun _ => hy, fun _ => h⟩⟩
      obtain ⟨t, ht, k1, k2⟩ := key
      by_cases h0 : t = 0
      · have HK := Lib.hid (k2 h0)
        subst h0
        clear k1 k2 HJ hj hlt
        go_wp2_with fail
        go_roundw
        case rel => exact ⟨j + 1, _, rfl, by trivial, by omega, by go_num, HK⟩
        case measure => simp [RowKit.intOf]; omega
      · have HK := Lib.hid (k1 h0)
        clear k1 k2 HJ hj hlt
        go_wp2_with fail
        go_ret
        exact ⟨by rw [HK.out]; rfl, rfl⟩
    · obtain rfl : j = 3 := by omega
      have e := HR.out
      unfold or3 at e
      obtain rfl : r = 0 := by rw [← e, if_pos (HJ.out.1 (by omega)), if_pos (HJ.out.2.1 (by omega)), HJ.out.2.2 (by omega)]
      clear e HJ hj hlt HR
      go_wp2_with fail
      go_ret
      exact ⟨rfl, rfl⟩

end Go.Proofs.Ytononiedecpllaa
