/- The document's answers for orders: Digits. -/
import Derived.Test.YtlldmebjgidbaaaDoorSt20
set_option linter.unusedVariables false
set_option linter.unusedSimpArgs false
namespace Go.Proofs.YtlldmebjgidbaaaDoor
open Go.RowKit

def decU (u : Nat) : List UInt8 := if u = 0 then [] else Lib.decDigits u
theorem decU_step (u : Nat) (h : 0 < u) : decU u = decU (u / 10) ++ [UInt8.ofNat (48 + u % 10)] := by
  unfold decU
  rw [if_neg (by omega)]
  by_cases h2 : u < 10
  · rw [if_pos (by omega), Lib.decDigits_one h2, Nat.mod_eq_of_lt h2]
    rfl
  · rw [if_neg (by omega)]
    rw [Lib.decDigits, dif_neg h2]

theorem dig_num (u : Nat) (h : u ≤ 9223372036854775808) : IntKind.u8.wrap (IntKind.u64.wrap (48 + (u : Int) % 10)) = (((UInt8.ofNat (48 + u % 10)).toNat : Nat) : Int) := by
  rw [(ofNat_dg (u % 10) (by omega)).2.2]
  simp only [IntKind.wrap_u8, IntKind.wrap_u64]
  omega
theorem dig_numt (u : Nat) (h : u ≤ 9223372036854775808) : IntKind.u8.wrap (IntKind.u64.wrap (48 + IntKind.u64.wrap ((u : Int).tmod 10))) = (((UInt8.ofNat (48 + u % 10)).toNat : Nat) : Int) := by
  rw [(ofNat_dg (u % 10) (by omega)).2.2, Int.tmod_eq_emod_of_nonneg (by omega)]
  simp only [IntKind.wrap_u8, IntKind.wrap_u64]
  omega
theorem div_num (u : Nat) (h : u ≤ 9223372036854775808) : IntKind.u64.wrap ((u : Int).tdiv 10) = ((u / 10 : Nat) : Int) := by
  rw [Int.tdiv_eq_ediv_of_nonneg (by omega), IntKind.wrap_u64]
  omega

theorem decU_zero : decU 0 = [] := rfl
theorem decU_pos (u : Nat) (h : 0 < u) : decU u = Lib.decDigits u := by unfold decU; rw [if_neg (by omega)]

theorem itoa_sign (n : Int) : Lib.itoa n = (if n < 0 then [45] else []) ++ (if decU n.natAbs = [] then [48] else decU n.natAbs) := by
  unfold Lib.itoa
  by_cases h : n < 0
  · rw [if_pos h, if_pos h, decU_pos _ (by omega), if_neg (dec_pos _)]
    rfl
  · rw [if_neg h, if_neg h]
    by_cases h0 : n = 0
    · subst h0
      have e : (0 : Int).natAbs = 0 := rfl
      rw [e, decU_zero]
      have e2 : (0 : Int).toNat = 0 := rfl
      rw [e2, Lib.decDigits_one (by decide)]
      rfl
    · rw [decU_pos _ (by omega), if_neg (dec_pos _), show n.toNat = n.natAbs by omega]
      rfl

theorem ms_less {v u : Nat} {x : Int} (h : v < u) (e : x = (v : Int)) : (RowKit.intOf (.int .u64 x)).toNat < (RowKit.intOf (.int .u64 (u : Int))).toNat := by
  subst e
  simp only [RowKit.intOf, Int.toNat_natCast]
  omega

set_option maxRecDepth 1000000 in
set_option maxHeartbeats 4000000 in
theorem rDigits (n : Int) (h0 : -9223372036854775808 ≤ n) (h1 : n ≤ 9223372036854775807) (w : World) :
    Calls Tryd.prog 20 #[.int .i64 n] w fun e w' => e = .returned (.string ⟨(Lib.itoa n).toArray⟩) ∧ KeptIn (· < w.heap.size) w w' := by
  have hi := Lib.hid (itoa_sign n)
  obtain ⟨a, ha⟩ : ∃ a, n.natAbs = a := ⟨_, rfl⟩
  obtain ⟨sg, hsg⟩ : ∃ sg, (if n < 0 then [45] else ([] : List UInt8)) = sg := ⟨_, rfl⟩
  rw [ha, hsg] at hi
  have hab : a ≤ 9223372036854775808 := by omega
  have hsl : Hid (sg.length ≤ 1) := Lib.hid (by rw [← hsg]; split <;> simp)
  by_cases hn : n < 0
  · have hu : IntKind.u64.wrap (-(IntKind.u64.wrap n)) = (a : Int) := by simp only [IntKind.wrap_u64]; omega
    have d1 : decide (n < 0) = true := decide_eq_true hn
    rw [if_pos hn] at hsg
    subst hsg
    clear h0 h1 ha
    go_enter Tryd.func20, Tryd.ntmps20
    go_wp2_with fail
    go_loopw [3, 5] (fun v i wr => ∃ (u : Nat) (s : List UInt8) (V : World), V = wr ∧ v = .int .u64 (u : Int) ∧ i = .string ⟨s.toArray⟩ ∧ Hid (u ≤ a ∧ KeptIn (· < w.heap.size) w V ∧ decU a = decU u ++ s ∧ s.length + (decU u).length ≤ 20)) (fun v _ _ => (RowKit.intOf v).toNat)
    case atStart =>
      refine ⟨a, [], _, rfl, by first | rfl | exact congrArg (Value.int .u64) hu, rfl, Nat.le_refl _, .refl _ _, by simp, ?_⟩
      have := dec_len a hab
      unfold decU
      split <;> simp
      omega
    case round =>
      obtain ⟨u, s, V, rfl, rfl, rfl, H⟩ := hrel
      obtain ⟨hua, hK, hD, hl⟩ := H.out
      clear H
      by_cases hp : 0 < u
      · have d2 : decide ((0 : Int) < (u : Int)) = true := decide_eq_true (by omega)
        have d3 : decide ((u : Int) > 0) = true := d2
        have d5 : decide (0 < u) = true := decide_eq_true hp
        have n1 := dig_num u (by omega)
        have n2 := dig_numt u (by omega)
        have n3 := div_num u (by omega)
        obtain ⟨x, hx⟩ : ∃ x, UInt8.ofNat (48 + u % 10) = x := ⟨_, rfl⟩
        obtain ⟨q, hq⟩ : ∃ q, u / 10 = q := ⟨_, rfl⟩
        have hst := decU_step u hp
        have n4 : (u : Int) / 10 = (q : Int) := by omega
        have n5 : ((x.toNat : Nat) : Int) = 48 + (u : Int) % 10 := by rw [← hx, (ofNat_dg (u % 10) (by omega)).2.2]; omega
        rw [hx] at hst
        rw [hq] at n3 hst
        have hcv := conv_1 x V
        rw [n5] at hcv
        have n6 : IntKind.u64.wrap (q : Int) = (q : Int) := by rw [IntKind.wrap_u64]; omega
        clear n1 n2 n5
        have hls : s.length ≤ 20 := by omega
        have hD2 : Hid (q ≤ a ∧ decU a = decU q ++ (x :: s) ∧ (x :: s).length + (decU q).length ≤ 20) := Lib.hid ⟨by omega, by rw [hD, hst, List.append_assoc]; rfl, by rw [hst] at hl; simp at hl ⊢; omega⟩
        have hqu : Hid (q < u) := Lib.hid (by omega)
        replace hK := Lib.hid hK
        clear hst hD hl hua hx hq hp
        go_wp2_with fail
        go_roundw
        case rel =>
          refine ⟨q, x :: s, _, rfl, by first | rfl | exact congrArg (Value.int .u64) n4 | exact congrArg (Value.int .u64) n6, ?_, hD2.out.1, hK.out.alloc (fun _ h => h) _, hD2.out.2.1, hD2.out.2.2⟩
          first | rfl | exact congrArg Value.string (app_of [x] s)
        case measure => first | exact ms_less hqu.out rfl | exact ms_less hqu.out n4 | exact ms_less hqu.out n6
      · obtain rfl : u = 0 := by omega
        rw [decU_zero, List.nil_append] at hD
        rw [hD] at hi
        have hls : s.length ≤ 20 := by omega
        replace hK := Lib.hid hK
        replace hsl := Lib.hid hsl.out
        clear hD hl hua hp
        by_cases hs : s = []
        · subst hs
          have hi2 := hi.out
          rw [if_pos rfl] at hi2
          replace hi2 := Lib.hid hi2
          clear hi
          go_wp2_with fail
          go_ret
          rw [hi2.out]
          exact ⟨rfl, hK.out⟩
        · have hi2 := hi.out
          rw [if_neg hs] at hi2
          have b1 : (s == []) = false := beq_eq_false_iff_ne.2 hs
          have b2 : s.isEmpty = false := by cases s with | nil => exact absurd rfl hs | cons => rfl
          replace hi2 := Lib.hid hi2
          clear hi
          go_wp2_with fail
          go_ret
          rw [hi2.out]
          refine ⟨?_, hK.out⟩
          first | rfl | exact congrArg (fun z => Ending.returned (Value.string z)) (app_of _ s)
  · have hu : IntKind.u64.wrap n = (a : Int) := by simp only [IntKind.wrap_u64]; omega
    have d1 : decide (n < 0) = false := decide_eq_false hn
    rw [if_neg hn] at hsg
    subst hsg
    clear h0 h1 ha
    go_enter Tryd.func20, Tryd.ntmps20
    go_wp2_with fail
    go_loopw [3, 5] (fun v i wr => ∃ (u : Nat) (s : List UInt8) (V : World), V = wr ∧ v = .int .u64 (u : Int) ∧ i = .string ⟨s.toArray⟩ ∧ Hid (u ≤ a ∧ KeptIn (· < w.heap.size) w V ∧ decU a = decU u ++ s ∧ s.length + (decU u).length ≤ 20)) (fun v _ _ => (RowKit.intOf v).toNat)
    case atStart =>
      refine ⟨a, [], _, rfl, by first | rfl | exact congrArg (Value.int .u64) hu, rfl, Nat.le_refl _, .refl _ _, by simp, ?_⟩
      have := dec_len a hab
      unfold decU
      split <;> simp
      omega
    case round =>
      obtain ⟨u, s, V, rfl, rfl, rfl, H⟩ := hrel
      obtain ⟨hua, hK, hD, hl⟩ := H.out
      clear H
      by_cases hp : 0 < u
      · have d2 : decide ((0 : Int) < (u : Int)) = true := decide_eq_true (by omega)
        have d3 : decide ((u : Int) > 0) = true := d2
        have d5 : decide (0 < u) = true := decide_eq_true hp
        have n1 := dig_num u (by omega)
        have n2 := dig_numt u (by omega)
        have n3 := div_num u (by omega)
        obtain ⟨x, hx⟩ : ∃ x, UInt8.ofNat (48 + u % 10) = x := ⟨_, rfl⟩
        obtain ⟨q, hq⟩ : ∃ q, u / 10 = q := ⟨_, rfl⟩
        have hst := decU_step u hp
        have n4 : (u : Int) / 10 = (q : Int) := by omega
        have n5 : ((x.toNat : Nat) : Int) = 48 + (u : Int) % 10 := by rw [← hx, (ofNat_dg (u % 10) (by omega)).2.2]; omega
        rw [hx] at hst
        rw [hq] at n3 hst
        have hcv := conv_1 x V
        rw [n5] at hcv
        have n6 : IntKind.u64.wrap (q : Int) = (q : Int) := by rw [IntKind.wrap_u64]; omega
        clear n1 n2 n5
        have hls : s.length ≤ 20 := by omega
        have hD2 : Hid (q ≤ a ∧ decU a = decU q ++ (x :: s) ∧ (x :: s).length + (decU q).length ≤ 20) := Lib.hid ⟨by omega, by rw [hD, hst, List.append_assoc]; rfl, by rw [hst] at hl; simp at hl ⊢; omega⟩
        have hqu : Hid (q < u) := Lib.hid (by omega)
        replace hK := Lib.hid hK
        clear hst hD hl hua hx hq hp
        go_wp2_with fail
        go_roundw
        case rel =>
          refine ⟨q, x :: s, _, rfl, by first | rfl | exact congrArg (Value.int .u64) n4 | exact congrArg (Value.int .u64) n6, ?_, hD2.out.1, hK.out.alloc (fun _ h => h) _, hD2.out.2.1, hD2.out.2.2⟩
          first | rfl | exact congrArg Value.string (app_of [x] s)
        case measure => first | exact ms_less hqu.out rfl | exact ms_less hqu.out n4 | exact ms_less hqu.out n6
      · obtain rfl : u = 0 := by omega
        rw [decU_zero, List.nil_append] at hD
        rw [hD] at hi
        have hls : s.length ≤ 20 := by omega
        replace hK := Lib.hid hK
        replace hsl := Lib.hid hsl.out
        clear hD hl hua hp
        by_cases hs : s = []
        · subst hs
          have hi2 := hi.out
          rw [if_pos rfl] at hi2
          replace hi2 := Lib.hid hi2
          clear hi
          go_wp2_with fail
          go_ret
          rw [hi2.out]
          exact ⟨rfl, hK.out⟩
        · have hi2 := hi.out
          rw [if_neg hs] at hi2
          have b1 : (s == []) = false := beq_eq_false_iff_ne.2 hs
          have b2 : s.isEmpty = false := by cases s with | nil => exact absurd rfl hs | cons => rfl
          replace hi2 := Lib.hid hi2
          clear hi
          go_wp2_with fail
          go_ret
          rw [hi2.out]
          refine ⟨?_, hK.out⟩
          first | rfl | exact congrArg (fun z => Ending.returned (Value.string z)) (app_of _ s)

end Go.Proofs.YtlldmebjgidbaaaDoor
