/- CastleExact of layer 2: the walk: it returns true for every input and writes nothing that was there. -/
import Derived.Test.YtklgadhdcnmgpaaDoorAw2
set_option linter.unusedVariables false
namespace Go.Proofs.YtklgadhdcnmgpaaDoor
open Go.RowKit

set_option maxHeartbeats 1000000 in
set_option maxRecDepth 100000 in
theorem exactL (l : List UInt8) (w : World) (hT : Tab w) (hm : (l.length : Int) ≤ 9223372036854775807) :
    Calls Tryd.prog 3 #[.string ⟨l.toArray⟩] w fun e w' => e = .returned (.bool true) ∧ KeptIn (· < w.heap.size) w w' := by
  have HT := Lib.hid hT
  clear hT
  go_enter Tryd.func3, Tryd.ntmps3
  go_wp2_with fail
  refine (awake2 w HT.out).mono ?_
  rintro e w1 ⟨rfl, k1⟩
  have T1 := Lib.hid (HT.out.kept k1 HT.out.lt)
  have K1 := Lib.hid k1
  clear k1
  by_cases hl : 1024 < (l.length : Int)
  · go_wp2
    go_ret
    exact ⟨rfl, K1.out⟩
  · have HL := Lib.hid (show l.length ≤ 65536 by omega)
    go_wp2_with fail
    refine (castleOpen l w1 T1.out HL.out).mono ?_
    rintro e w2 ⟨rfl, k2⟩
    have T2 := Lib.hid (T1.out.kept k2 T1.out.lt)
    replace k2 := K1.out.trans (k2.mono fun k h => Nat.lt_of_lt_of_le h K1.out.size)
    have K2 := Lib.hid k2
    clear k2
    go_wp2_with fail
    refine (refOpen l w2 HL.out).mono ?_
    rintro e w3 ⟨rfl, k3⟩
    have T3 := Lib.hid (T2.out.kept k3 T2.out.lt)
    replace k3 := K2.out.trans (k3.mono fun k h => Nat.lt_of_lt_of_le h K2.out.size)
    have K3 := Lib.hid k3
    clear k3
    go_wp2_with fail
    refine (castleSum l w3 T3.out (by have := HL.out; omega)).mono ?_
    rintro e _ ⟨rfl, rfl⟩
    go_wp2_with fail
    refine (refSum l w3 (by have := HL.out; omega)).mono ?_
    rintro e _ ⟨rfl, rfl⟩
    go_wp2_with fail
    refine (castleSeal l w3 T3.out HL.out).mono ?_
    rintro e w4 ⟨rfl, k4⟩
    replace k4 := K3.out.trans (k4.mono fun k h => Nat.lt_of_lt_of_le h K3.out.size)
    have K4 := Lib.hid k4
    clear k4
    go_wp2_with fail
    refine (refSeal l w4 HL.out).mono ?_
    rintro e w5 ⟨rfl, k5⟩
    replace k5 := K4.out.trans (k5.mono fun k h => Nat.lt_of_lt_of_le h K4.out.size)
    have K5 := Lib.hid k5
    clear k5
    generalize sealOf l = sl at *
    generalize openOf l = ol at *
    generalize openIs l = ob at *
    generalize sumOf l = sm at *
    have e1 : (sl == sl) = true := beq_self_eq_true sl
    have e2 : (ol == ol) = true := beq_self_eq_true ol
    go_wp2
    go_ret
    exact ⟨rfl, K5.out⟩

theorem exactW (s : ByteArray) (w : World) (ws : s.size ≤ maxLen) (hT : Tab w) :
    Calls Tryd.prog 3 #[.string s] w fun e w' => e = .returned (.bool true) ∧ KeptIn (· < w.heap.size) w w' := by
  have := exactL s.data.toList w hT (by rw [Array.length_toList]; have : s.data.size ≤ maxLen := ws; unfold maxLen at this; omega)
  rwa [Lib.mk_data] at this

end Go.Proofs.YtklgadhdcnmgpaaDoor
