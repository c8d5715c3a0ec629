/- Order: alike, awake. -/
import Derived.Test.YtlldmebjgidbaaaDoorPr20
set_option linter.unusedVariables false
set_option linter.unusedSimpArgs false
namespace Go.Proofs.YtlldmebjgidbaaaDoor
open Go.RowKit

theorem not_nilO (W : World) (u : TypeId) (v : Value) : (binOp .eql 24 (.iface u v) .nilIface).run Tryd.prog W = .ok (.bool false) W := by kernel_rfl

theorem oAlike (o p : Od) (ho : o.ok) (hp : p.ok) (co : canT o.ts = true) (cp : canT p.ts = true) (w : World) (T : Tb20 w) :
    Calls Tryd.prog 19 #[valO o, valO p] w fun e w' => e = .returned (.bool (textL o == textL p)) ∧ KeptIn (· < w.heap.size) w w' := by
  have C1 := oText o ho w T
  have C2 : Hid (∀ V, Tb20 V → Calls Tryd.prog 9 #[valO p] V fun e w' => e = .returned (.tuple #[.string ⟨(textL p).toArray⟩, .int .i64 0]) ∧ KeptIn (· < V.heap.size) V w') := Lib.hid fun V TV => by
    have := oText p hp V TV
    rw [cp, if_pos rfl, show txtR p = textL p by unfold txtR; rw [if_pos cp]] at this
    exact this
  rw [co, if_pos rfl, show txtR o = textL o by unfold txtR; rw [if_pos co]] at C1
  have h1 : valO o = .iface (tyO o.k) (.agg (numC o.ns ++ txtC o.ts).toArray) := rfl
  have h2 : valO p = .iface (tyO p.k) (.agg (numC p.ns ++ txtC p.ts).toArray) := rfl
  rw [h1] at C1 ⊢
  rw [h2] at C2 ⊢
  generalize Value.agg (numC o.ns ++ txtC o.ts).toArray = y1 at C1 ⊢
  generalize tyO o.k = t1 at C1 ⊢
  generalize Value.agg (numC p.ns ++ txtC p.ts).toArray = y2 at C2 ⊢
  generalize tyO p.k = t2 at C2 ⊢
  generalize textL o = s1 at C1 ⊢
  generalize textL p = s2 at C2 ⊢
  replace C1 := Lib.hid C1
  replace T := Lib.hid T
  have n1 := not_nilO w t1 y1
  have n2 := not_nilO w t2 y2
  clear h1 h2 ho hp co cp
  go_enter Tryd.func19, Tryd.ntmps19
  go_wp2_with fail
  refine C1.out.mono ?_
  rintro e W1 ⟨rfl, hK1⟩
  have T1 := T.out.kept hK1
  have HK1 := Lib.hid hK1
  clear C1 hK1 n1 n2
  replace C2 := Lib.hid (C2.out W1 T1)
  clear T1
  go_wp2_with fail
  refine C2.out.mono ?_
  rintro e W2 ⟨rfl, hK2⟩
  have HK2 := Lib.hid (HK1.out.trans (hK2.mono fun k hk => Nat.lt_of_lt_of_le hk HK1.out.size))
  clear C2 hK2
  go_wp2_with fail
  go_ret
  exact ⟨rfl, HK2.out⟩

def crO : Od := ⟨0, [1, 8], []⟩
theorem crO_ok : crO.ok := ⟨by decide, rfl, rfl, fun x hx => by
  have : x = 1 ∨ x = 8 := by simpa [crO] using hx
  omega, fun x hx => by simp [crO] at hx⟩

theorem itoa_one (n : Nat) (h : n < 10) : Lib.itoa (n : Int) = [UInt8.ofNat (48 + n)] := by rw [Lib.itoa_nonneg, Lib.decDigits_one h]
theorem crO_text : textL crO = [99, 114, 101, 97, 116, 101, 32, 49, 32, 56] := by
  unfold textL wdsO crO
  simp only [List.map_cons, List.map_nil, List.append_nil]
  rw [show (1 : Int) = ((1 : Nat) : Int) from rfl, show (8 : Int) = ((8 : Nat) : Int) from rfl, itoa_one 1 (by decide), itoa_one 8 (by decide)]
  decide

theorem pl_wide1 (c : UInt8) (m : List UInt8) (h : 144 ≤ c.toNat ∧ c.toNat ≤ 153) : pl (239 :: 188 :: c :: m) = UInt8.ofNat (c.toNat - 96) :: pl m := by
  rw [pl_cons, if_pos]
  · rfl
  · unfold isW
    exact decide_eq_true ⟨by simp, rfl, rfl, h.1, h.2⟩

theorem aw_parse : parseO [99, 114, 101, 97, 116, 101, 32, 239, 188, 145, 32, 56] = some crO := by
  have hw : wds [99, 114, 101, 97, 116, 101, 32, 239, 188, 145, 32, 56] = [[99, 114, 101, 97, 116, 101], [239, 188, 145], [56]] := by decide
  have h1 : numW [239, 188, 145] = some 1 := by
    unfold numW
    rw [pl_wide1 145 [] (by decide), pl_nil]
    decide
  have h2 : numW [56] = some 8 := by
    unfold numW
    rw [pl_plain [] (by decide), pl_nil]
    decide
  have hk : kindOf [99, 114, 101, 97, 116, 101] = some 0 := by decide
  unfold parseO
  rw [hw]
  simp only [List.head?_cons, Option.bind_some, hk, List.tail_cons, List.length_cons, List.length_nil]
  rw [if_neg (by decide)]
  have e1 : ([[239, 188, 145], [56]] : List (List UInt8)).take (cn 0) = [[239, 188, 145], [56]] := by decide
  have e2 : ([[239, 188, 145], [56]] : List (List UInt8)).drop (cn 0) = [] := by decide
  rw [e1, e2]
  simp only [mapO, h1, h2]
  rfl
theorem aw_num : numP (pl [45, 239, 188, 145, 239, 188, 146]) = some (-12) := by
  rw [pl_minus, pl_wide1 145 _ (by decide), pl_wide1 146 _ (by decide), pl_nil]
  decide
theorem aw_byt : bytS [226, 160, 129, 226, 163, 191] = some [1, 255] := by decide

theorem awake20 (w : World) (T : Tb20 w) : Calls Tryd.prog 4 #[] w fun e w' => e = .returned (.bool true) ∧ KeptIn (· < w.heap.size) w w' := by
  have C1 : Hid (∀ V, Tb20 V → Calls Tryd.prog 9 #[.iface 50 (.agg #[.int .i64 1, .int .i64 8])] V fun e w' => e = .returned (.tuple #[.string ⟨#[99, 114, 101, 97, 116, 101, 32, 49, 32, 56]⟩, .int .i64 0]) ∧ KeptIn (· < V.heap.size) V w') := Lib.hid fun V TV => by
    have := oText crO crO_ok V TV
    rw [show txtR crO = textL crO from rfl, crO_text] at this
    exact this
  have C2 : Hid (∀ V, Tb20 V → Calls Tryd.prog 15 #[.string ⟨#[99, 114, 101, 97, 116, 101, 32, 239, 188, 145, 32, 56]⟩] V fun e w' => e = .returned (.tuple #[.iface 50 (.agg #[.int .i64 1, .int .i64 8]), .int .i64 0]) ∧ KeptIn (· < V.heap.size) V w') := Lib.hid fun V TV => by
    have := oParse [99, 114, 101, 97, 116, 101, 32, 239, 188, 145, 32, 56] (by decide) V TV
    rw [aw_parse] at this
    exact this
  have C3 : Hid (∀ V, Calls Tryd.prog 17 #[.string ⟨#[45, 239, 188, 145, 239, 188, 146]⟩] V fun e w' => e = .returned (.tuple #[.int .i64 (-12), .bool true]) ∧ KeptIn (· < V.heap.size) V w') := Lib.hid fun V => by
    have := oNumber [45, 239, 188, 145, 239, 188, 146] (by decide) V
    rw [aw_num] at this
    exact this
  have C4 : Hid (∀ V, Calls Tryd.prog 18 #[.string ⟨#[226, 160, 129, 226, 163, 191]⟩] V fun e w' => e = .returned (.tuple #[.string ⟨#[1, 255]⟩, .bool true]) ∧ KeptIn (· < V.heap.size) V w') := Lib.hid fun V => by
    have := oBytes [226, 160, 129, 226, 163, 191] (by decide) V
    rw [aw_byt] at this
    exact this
  have C6 : Hid (∀ V, Tb20 V → Calls Tryd.prog 19 #[.iface 50 (.agg #[.int .i64 1, .int .i64 8]), .iface 50 (.agg #[.int .i64 1, .int .i64 8])] V fun e w' => e = .returned (.bool true) ∧ KeptIn (· < V.heap.size) V w') := Lib.hid fun V TV => by
    have := oAlike crO crO crO_ok crO_ok rfl rfl V TV
    rw [show (textL crO == textL crO) = true by simp] at this
    exact this
  replace T := Lib.hid T
  go_enter Tryd.func4, Tryd.ntmps4
  go_wp2_with fail
  refine (C1.out w T.out).mono ?_
  rintro e W1 ⟨rfl, hK1⟩
  replace hK1 := Lib.hid hK1
  clear C1
  go_wp2_with fail
  refine (C2.out W1 (T.out.kept hK1.out)).mono ?_
  rintro e W2 ⟨rfl, hK2⟩
  have HK2 := Lib.hid (hK1.out.trans (hK2.mono fun k hk => Nat.lt_of_lt_of_le hk hK1.out.size))
  clear C2 hK2 hK1
  go_wp2_with fail
  refine (C3.out W2).mono ?_
  rintro e W3 ⟨rfl, hK3⟩
  have HK3 := Lib.hid (HK2.out.trans (hK3.mono fun k hk => Nat.lt_of_lt_of_le hk HK2.out.size))
  clear C3 hK3 HK2
  go_wp2_with fail
  refine (C4.out W3).mono ?_
  rintro e W4 ⟨rfl, hK4⟩
  have HK4 := Lib.hid (HK3.out.trans (hK4.mono fun k hk => Nat.lt_of_lt_of_le hk HK3.out.size))
  clear C4 hK4 HK3
  go_wp2_with fail
  refine (oTextNil W4).mono ?_
  rintro e W5 ⟨rfl, hK5⟩
  have HK5 := Lib.hid (HK4.out.trans (hK5.mono fun k hk => Nat.lt_of_lt_of_le hk HK4.out.size))
  clear hK5 HK4
  go_wp2_with fail
  refine (C6.out W5 (T.out.kept HK5.out)).mono ?_
  rintro e W6 ⟨rfl, hK6⟩
  have HK6 := Lib.hid (HK5.out.trans (hK6.mono fun k hk => Nat.lt_of_lt_of_le hk HK5.out.size))
  clear C6 hK6 HK5
  go_wp2_with fail
  go_ret
  exact ⟨rfl, HK6.out⟩

end Go.Proofs.YtlldmebjgidbaaaDoor
