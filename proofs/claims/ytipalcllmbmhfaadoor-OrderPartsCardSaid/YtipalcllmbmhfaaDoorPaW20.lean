/- Order: OrderParts' walk. -/
import Derived.Test.YtipalcllmbmhfaaDoorRb20
set_option linter.unusedVariables false
set_option linter.unusedSimpArgs false
namespace Go.Proofs.YtipalcllmbmhfaaDoor
open Go.RowKit

set_option maxRecDepth 1000000 in
set_option maxHeartbeats 4000000 in
theorem orderPartsL (l : List UInt8) (w : World) (hm : (l.length : Int) ≤ 9223372036854775807) (T : Tb20 w) :
    Calls Tryd.prog 4 #[.string ⟨l.toArray⟩] w fun e w' => e = .returned (.bool true) ∧ KeptIn (· < w.heap.size) w w' := by
  replace T := Lib.hid T
  by_cases h : (1024 : Int) < (l.length : Int)
  · have d1 : decide ((1024 : Int) < (l.length : Int)) = true := decide_eq_true h
    have d2 : decide (1024 < l.length) = true := decide_eq_true (by omega)
    go_enter Tryd.func4, Tryd.ntmps4
    go_wp2_with fail
    refine (awake20 w T.out).mono ?_
    rintro e W1 ⟨rfl, hK1⟩
    replace hK1 := Lib.hid hK1
    go_wp2_with fail
    go_ret
    exact ⟨rfl, hK1.out⟩
  · have d1 : decide ((1024 : Int) < (l.length : Int)) = false := decide_eq_false h
    have d2 : decide (1024 < l.length) = false := decide_eq_false (by omega)
    have hl : l.length ≤ 1024 := by omega
    have C1 := Lib.hid (oNumber' l (by omega))
    have C2 := Lib.hid (rNumber l (by omega))
    have C3 := Lib.hid (oBytes l (by omega))
    have C4 := Lib.hid (rBytes l (by omega))
    obtain ⟨n, hn⟩ : ∃ n, nvI (numW l) = n := ⟨_, rfl⟩
    obtain ⟨nb, hnb⟩ : ∃ n, (numW l).isSome = n := ⟨_, rfl⟩
    obtain ⟨b, hb⟩ : ∃ n, bvS (bytS l) = n := ⟨_, rfl⟩
    obtain ⟨bb, hbb⟩ : ∃ n, (bytS l).isSome = n := ⟨_, rfl⟩
    rw [hn, hnb] at C1 C2
    rw [hb, hbb] at C3 C4
    have q1 : (n == n) = true := by simp
    have q2 : (nb == nb) = true := by simp
    have q3 : (b == b) = true := by simp
    have q4 : (bb == bb) = true := by simp
    clear hn hnb hb hbb
    go_enter Tryd.func4, Tryd.ntmps4
    go_wp2_with fail
    refine (awake20 w T.out).mono ?_
    rintro e W1 ⟨rfl, hK1⟩
    replace hK1 := Lib.hid hK1
    go_wp2_with fail
    refine (C1.out W1).mono ?_
    rintro e W2 ⟨rfl, hK2⟩
    have HK2 := Lib.hid (hK1.out.trans (hK2.mono fun k hk => Nat.lt_of_lt_of_le hk hK1.out.size))
    clear hK2 C1 hK1
    go_wp2_with fail
    refine (C2.out W2).mono ?_
    rintro e W3 ⟨rfl, hK3⟩
    have HK3 := Lib.hid (HK2.out.trans (hK3.mono fun k hk => Nat.lt_of_lt_of_le hk HK2.out.size))
    clear hK3 C2 HK2
    go_wp2_with fail
    refine (C3.out W3).mono ?_
    rintro e W4 ⟨rfl, hK4⟩
    have HK4 := Lib.hid (HK3.out.trans (hK4.mono fun k hk => Nat.lt_of_lt_of_le hk HK3.out.size))
    clear hK4 C3 HK3
    go_wp2_with fail
    refine (C4.out W4).mono ?_
    rintro e W5 ⟨rfl, hK5⟩
    have HK5 := Lib.hid (HK4.out.trans (hK5.mono fun k hk => Nat.lt_of_lt_of_le hk HK4.out.size))
    clear hK5 C4 HK4
    go_wp2_with fail
    go_ret
    exact ⟨rfl, HK5.out⟩

theorem len_str (s : ByteArray) (h : s.size ≤ maxLen) : (s.data.toList.length : Int) ≤ 9223372036854775807 := by
  rw [Array.length_toList]
  have : s.data.size ≤ maxLen := h
  unfold maxLen at this
  omega

theorem orderPartsW (s : ByteArray) (w : World) (ws : s.size ≤ maxLen) (T : Tb20 w) :
    Calls Tryd.prog 4 #[.string s] w fun e w' => e = .returned (.bool true) ∧ KeptIn (· < w.heap.size) w w' := by
  have := orderPartsL s.data.toList w (len_str s ws) T
  rwa [Lib.mk_data] at this

end Go.Proofs.YtipalcllmbmhfaaDoor
