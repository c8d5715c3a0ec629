import Derived.Test.YtlnlgapjlekehaaCt8K
import Derived.BigQuiet
/- TreeMap of layer 8: the law's comparison of rows of numbers. -/
set_option linter.unusedVariables false
namespace Go.Proofs.Ytlnlgapjlekehaa
open Go.RowKit

theorem IntsL.old {W W' : World} {b : Option Addr} {l : List Int} (h : IntsL W b l) (hk : KeptIn (· < W.heap.size) W W') : IntsL W' b l :=
  ⟨h.len, fun hp => by
    obtain ⟨bk, off, e, hb, hc⟩ := h.cells hp
    exact ⟨bk, off, e, Nat.lt_of_lt_of_le hb hk.size, fun i hi => (World.cell?_of_block (a := ⟨bk, off + i, none⟩) (hk.block bk hb)).trans (hc i hi)⟩⟩

set_option maxHeartbeats 1000000 in
theorem l8ints (a b : Option Addr) (ca cb n : Nat) (l : List Int) (w : World) (hn : l.length = n) (h : IntsL w a l) (k : IntsL w b l) :
    Calls Try.prog 19 #[.slice a n ca, .slice b n cb] w fun e w' => e = .returned (.bool true) ∧ KeptIn (· < w.heap.size) w w' := by
  have hm := h.len
  have hnI : (n : Int) ≤ 9223372036854775807 := by unfold maxLen at hm; omega
  have HN := Lib.hid hn
  have HI0 : Hid (IntsL w a l ∧ IntsL w b l ∧ KeptIn (· < w.heap.size) w w) := Lib.hid ⟨h, k, KeptIn.refl _ w⟩
  clear hn h k hm
  go_enter Try.func19, Try.ntmps19
  go_wp2_with fail
  go_loopw [5] (fun i wr => ∃ (t : Nat) (U : World), U = wr ∧ t ≤ n ∧ i = .int .i64 (t : Int) ∧ Hid (IntsL U a l ∧ IntsL U b l ∧ KeptIn (· < w.heap.size) w U)) (fun i _ => n - (intOf i).toNat)
  case atStart => exact ⟨0, _, rfl, Nat.zero_le _, rfl, HI0⟩
  case round =>
    obtain ⟨t, U, rfl, ht, rfl, HU⟩ := hrel
    clear HI0
    have t0 : (0 : Int) ≤ (t : Int) := by omega
    by_cases hlt : t < n
    · have t1 : (t : Int) < (n : Int) := by omega
      have htl : t < l.length := by rw [HN.out]; exact hlt
      obtain ⟨b1, o1, rfl, hb1, hc1⟩ := HU.out.1.cells (by omega)
      obtain ⟨b2, o2, rfl, hb2, hc2⟩ := HU.out.2.1.cells (by omega)
      have y0 := hc1 t htl
      have z0 := hc2 t htl
      obtain ⟨v, hv⟩ : ∃ v, l.getD t 0 = v := ⟨_, rfl⟩
      rw [hv] at y0 z0
      clear hc1 hc2 hv htl hb1 hb2
      go_wp2_with fail
      go_quiet (fail)
      go_wp2_with fail
      go_roundw
      case rel => exact ⟨t + 1, _, rfl, by omega, by go_num, Lib.hid ⟨HU.out.1.old ((KeptIn.refl _ _).drewN nq), HU.out.2.1.old ((KeptIn.refl _ _).drewN nq), HU.out.2.2.drewN nq⟩⟩
      case measure => simp only [intOf]; omega
    · have t1 : ¬ (t : Int) < (n : Int) := by omega
      have HE := Lib.hid HU.out.2.2
      clear HU
      go_wp2_with fail
      go_ret
      exact ⟨rfl, HE.out⟩

end Go.Proofs.Ytlnlgapjlekehaa
