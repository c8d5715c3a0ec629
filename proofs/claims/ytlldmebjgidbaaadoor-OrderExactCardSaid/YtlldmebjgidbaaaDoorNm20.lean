/- Order: a digit of either kind; how far from 0 digits tell; Number. -/
import Derived.Test.YtlldmebjgidbaaaDoorTb20
import Derived.Test.YtlldmebjgidbaaaDoorMb20
import Derived.Lib.OthersKept
import Derived.WalkSpells
import Derived.WalkLawsBesides
import Derived.RegionTactic
import Derived.Outline
import Derived.Lib.Hide
import Derived.BigQuiet
import Derived.LoopTactic
set_option linter.unusedVariables false
namespace Go.Proofs.YtlldmebjgidbaaaDoor
open Go.RowKit

def dgb (r : Nat) : Bool := decide (48 ≤ r ∧ r ≤ 57) || decide (65296 ≤ r ∧ r ≤ 65305)
def dgv (r : Nat) : Nat := if 48 ≤ r ∧ r ≤ 57 then r - 48 else if 65296 ≤ r ∧ r ≤ 65305 then r - 65296 else 0

theorem dg_sub (r k : Nat) (q : Int) (hq : q = k) (h : k ≤ r) (h2 : r ≤ 2147483647) : IntKind.u64.wrap (wrap32 ((r : Int) - q)) = ((r - k : Nat) : Int) := by
  subst hq
  rw [IntKind.wrap_u64]; unfold wrap32; omega

set_option maxRecDepth 100000 in
theorem oDigit (r : Nat) (hr : r ≤ 2147483647) (w : World) :
    Calls Tryd.prog 48 #[.int .i32 (r : Int)] w fun e w' => e = .returned (.tuple #[.int .u64 ((dgv r : Nat) : Int), .bool (dgb r)]) ∧ w' = w := by
  by_cases h1 : 48 ≤ r ∧ r ≤ 57
  · have ev : dgv r = r - 48 := by unfold dgv; rw [if_pos h1]
    have eb : dgb r = true := by unfold dgb; simp [h1]
    rw [ev, eb]
    have d1 : decide ((48 : Int) ≤ (r : Int)) = true := decide_eq_true (by omega)
    have d2 : decide ((r : Int) ≤ 57) = true := decide_eq_true (by omega)
    have e1 := dg_sub r 48 48 rfl h1.1 hr
    obtain ⟨k, hk⟩ : ∃ k, r - 48 = k := ⟨_, rfl⟩
    rw [hk] at e1 ⊢
    clear ev eb h1 hk hr
    go_enter Tryd.func48, Tryd.ntmps48
    go_wp2_with fail
    go_ret2
    exact ⟨rfl, rfl⟩
  · by_cases h2 : 65296 ≤ r ∧ r ≤ 65305
    · have ev : dgv r = r - 65296 := by unfold dgv; rw [if_neg h1, if_pos h2]
      have eb : dgb r = true := by unfold dgb; simp [h2]
      rw [ev, eb]
      have d1 : decide ((48 : Int) ≤ (r : Int)) = true := decide_eq_true (by omega)
      have d2 : decide ((r : Int) ≤ 57) = false := decide_eq_false (by omega)
      have d3 : decide ((65296 : Int) ≤ (r : Int)) = true := decide_eq_true (by omega)
      have d4 : decide ((r : Int) ≤ 65305) = true := decide_eq_true (by omega)
      have e1 := dg_sub r 65296 65296 rfl h2.1 hr
      obtain ⟨k, hk⟩ : ∃ k, r - 65296 = k := ⟨_, rfl⟩
      rw [hk] at e1 ⊢
      clear ev eb h1 h2 hk hr
      go_enter Tryd.func48, Tryd.ntmps48
      go_wp2_with fail
      go_ret2
      exact ⟨rfl, rfl⟩
    · have ev : dgv r = 0 := by unfold dgv; rw [if_neg h1, if_neg h2]
      have eb : dgb r = false := by unfold dgb; simp [h1, h2]
      rw [ev, eb]
      by_cases k1 : 48 ≤ r
      · have d1 : decide ((48 : Int) ≤ (r : Int)) = true := decide_eq_true (by omega)
        have d2 : decide ((r : Int) ≤ 57) = false := decide_eq_false (by omega)
        by_cases k2 : 65296 ≤ r
        · have d3 : decide ((65296 : Int) ≤ (r : Int)) = true := decide_eq_true (by omega)
          have d4 : decide ((r : Int) ≤ 65305) = false := decide_eq_false (by omega)
          clear ev eb h1 h2 hr k1 k2
          go_enter Tryd.func48, Tryd.ntmps48
          go_wp2_with fail
          go_ret2
          exact ⟨rfl, rfl⟩
        · have d3 : decide ((65296 : Int) ≤ (r : Int)) = false := decide_eq_false (by omega)
          clear ev eb h1 h2 hr k1 k2
          go_enter Tryd.func48, Tryd.ntmps48
          go_wp2_with fail
          go_ret2
          exact ⟨rfl, rfl⟩
      · have d1 : decide ((48 : Int) ≤ (r : Int)) = false := decide_eq_false (by omega)
        have d3 : decide ((65296 : Int) ≤ (r : Int)) = false := decide_eq_false (by omega)
        clear ev eb h1 h2 hr k1
        go_enter Tryd.func48, Tryd.ntmps48
        go_wp2_with fail
        go_ret2
        exact ⟨rfl, rfl⟩

end Go.Proofs.YtlldmebjgidbaaaDoor
