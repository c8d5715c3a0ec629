/- Order: the law's own orders. -/
import Derived.Test.YtlldmebjgidbaaaDoorSt20
set_option linter.unusedVariables false
set_option linter.unusedSimpArgs false
namespace Go.Proofs.YtlldmebjgidbaaaDoor
open Go.RowKit

/-- The order that a law makes of a kind, numbers and texts. -/
def mkO (k : Nat) (a b c : Int) (s t u : List UInt8) : Od :=
  match k with
  | 0 => ⟨0, [a, b], []⟩
  | 1 => ⟨1, [a], []⟩
  | 2 => ⟨2, [a, b], []⟩
  | 3 => ⟨3, [a, b], []⟩
  | 4 => ⟨4, [a], []⟩
  | 5 => ⟨5, [a], []⟩
  | 6 => ⟨6, [a, b, c], []⟩
  | 7 => ⟨7, [a, b], [s]⟩
  | 8 => ⟨8, [a, b, c], []⟩
  | 9 => ⟨9, [], []⟩
  | 10 => ⟨10, [a], []⟩
  | 11 => ⟨11, [], []⟩
  | 12 => ⟨12, [], []⟩
  | 13 => ⟨13, [a], []⟩
  | 14 => ⟨14, [], [s, t, u]⟩
  | _ => ⟨14, [], [s, t, u]⟩

theorem mkO_k : ∀ k, k < 15 → ∀ a b c s t u, (mkO k a b c s t u).k = k
  | 0, _ => fun _ _ _ _ _ _ => rfl
  | 1, _ => fun _ _ _ _ _ _ => rfl
  | 2, _ => fun _ _ _ _ _ _ => rfl
  | 3, _ => fun _ _ _ _ _ _ => rfl
  | 4, _ => fun _ _ _ _ _ _ => rfl
  | 5, _ => fun _ _ _ _ _ _ => rfl
  | 6, _ => fun _ _ _ _ _ _ => rfl
  | 7, _ => fun _ _ _ _ _ _ => rfl
  | 8, _ => fun _ _ _ _ _ _ => rfl
  | 9, _ => fun _ _ _ _ _ _ => rfl
  | 10, _ => fun _ _ _ _ _ _ => rfl
  | 11, _ => fun _ _ _ _ _ _ => rfl
  | 12, _ => fun _ _ _ _ _ _ => rfl
  | 13, _ => fun _ _ _ _ _ _ => rfl
  | 14, _ => fun _ _ _ _ _ _ => rfl
  | n + 15, h => absurd h (by omega)
theorem mkO_ok (k : Nat) (hk : k < 15) (a b c : Int) (s t u : List UInt8) (ha : -9223372036854775808 ≤ a ∧ a ≤ 9223372036854775807) (hb : -9223372036854775808 ≤ b ∧ b ≤ 9223372036854775807) (hc : -9223372036854775808 ≤ c ∧ c ≤ 9223372036854775807)
    (hs : s.length ≤ 1099511627776) (ht : t.length ≤ 1099511627776) (hu : u.length ≤ 1099511627776) : (mkO k a b c s t u).ok := by
  match k, hk with
  | 0, _ => exact ⟨(by decide : 0 < 15), rfl, rfl, by simp [mkO] <;> omega, by simp [mkO]⟩
  | 1, _ => exact ⟨(by decide : 1 < 15), rfl, rfl, by simp [mkO] <;> omega, by simp [mkO]⟩
  | 2, _ => exact ⟨(by decide : 2 < 15), rfl, rfl, by simp [mkO] <;> omega, by simp [mkO]⟩
  | 3, _ => exact ⟨(by decide : 3 < 15), rfl, rfl, by simp [mkO] <;> omega, by simp [mkO]⟩
  | 4, _ => exact ⟨(by decide : 4 < 15), rfl, rfl, by simp [mkO] <;> omega, by simp [mkO]⟩
  | 5, _ => exact ⟨(by decide : 5 < 15), rfl, rfl, by simp [mkO] <;> omega, by simp [mkO]⟩
  | 6, _ => exact ⟨(by decide : 6 < 15), rfl, rfl, by simp [mkO] <;> omega, by simp [mkO]⟩
  | 7, _ => exact ⟨(by decide : 7 < 15), rfl, rfl, by simp [mkO] <;> omega, by simp [mkO] <;> omega⟩
  | 8, _ => exact ⟨(by decide : 8 < 15), rfl, rfl, by simp [mkO] <;> omega, by simp [mkO]⟩
  | 9, _ => exact ⟨(by decide : 9 < 15), rfl, rfl, by simp [mkO], by simp [mkO]⟩
  | 10, _ => exact ⟨(by decide : 10 < 15), rfl, rfl, by simp [mkO] <;> omega, by simp [mkO]⟩
  | 11, _ => exact ⟨(by decide : 11 < 15), rfl, rfl, by simp [mkO], by simp [mkO]⟩
  | 12, _ => exact ⟨(by decide : 12 < 15), rfl, rfl, by simp [mkO], by simp [mkO]⟩
  | 13, _ => exact ⟨(by decide : 13 < 15), rfl, rfl, by simp [mkO] <;> omega, by simp [mkO]⟩
  | 14, _ => exact ⟨(by decide : 14 < 15), rfl, rfl, by simp [mkO], by simp [mkO] <;> omega⟩
  | n + 15, h => exact absurd h (by omega)
def kd15 (kind : Int) : Nat := ((IntKind.u64.wrap kind) % 15).toNat
theorem kd15_lt (kind : Int) : kd15 kind < 15 := by unfold kd15; omega
theorem kd15_num (kind : Int) : wrap64 ((IntKind.u64.wrap kind).tmod 15) = (kd15 kind : Int) ∧ wrap64 ((IntKind.u64.wrap kind) % 15) = (kd15 kind : Int) ∧ (IntKind.u64.wrap kind).tmod 15 = (kd15 kind : Int) ∧ (IntKind.u64.wrap kind) % 15 = (kd15 kind : Int) := by
  unfold kd15 wrap64
  rw [IntKind.wrap_u64, Int.tmod_eq_emod_of_nonneg (by omega)]
  refine ⟨?_, ?_, ?_, ?_⟩ <;> omega

set_option maxRecDepth 1000000 in
theorem madeCreate (kind a b c : Int) (s t u : List UInt8) (w : World) (h : kd15 kind = 0) :
    Calls Tryd.prog 5 #[.int .i64 kind, .int .i64 a, .int .i64 b, .int .i64 c, .string ⟨s.toArray⟩, .string ⟨t.toArray⟩, .string ⟨u.toArray⟩] w fun e w' => e = .returned (valO (mkO 0 a b c s t u)) ∧ KeptIn (· < w.heap.size) w w' := by
  obtain ⟨h1, h2, h3, h4⟩ := kd15_num kind
  rw [h] at h1 h2 h3 h4
  have h5 : wrap64 0 = 0 := by unfold wrap64; omega
  go_enter Tryd.func5, Tryd.ntmps5
  go_wp2_with fail
  go_ret
  first | exact ⟨rfl, .refl _ _⟩ | exact ⟨rfl, (KeptIn.refl _ _).drew⟩
set_option maxRecDepth 1000000 in
theorem madeDelete (kind a b c : Int) (s t u : List UInt8) (w : World) (h : kd15 kind = 1) :
    Calls Tryd.prog 5 #[.int .i64 kind, .int .i64 a, .int .i64 b, .int .i64 c, .string ⟨s.toArray⟩, .string ⟨t.toArray⟩, .string ⟨u.toArray⟩] w fun e w' => e = .returned (valO (mkO 1 a b c s t u)) ∧ KeptIn (· < w.heap.size) w w' := by
  obtain ⟨h1, h2, h3, h4⟩ := kd15_num kind
  rw [h] at h1 h2 h3 h4
  have h5 : wrap64 1 = 1 := by unfold wrap64; omega
  go_enter Tryd.func5, Tryd.ntmps5
  go_wp2_with fail
  go_ret
  first | exact ⟨rfl, .refl _ _⟩ | exact ⟨rfl, (KeptIn.refl _ _).drew⟩
set_option maxRecDepth 1000000 in
theorem madeSnap (kind a b c : Int) (s t u : List UInt8) (w : World) (h : kd15 kind = 2) :
    Calls Tryd.prog 5 #[.int .i64 kind, .int .i64 a, .int .i64 b, .int .i64 c, .string ⟨s.toArray⟩, .string ⟨t.toArray⟩, .string ⟨u.toArray⟩] w fun e w' => e = .returned (valO (mkO 2 a b c s t u)) ∧ KeptIn (· < w.heap.size) w w' := by
  obtain ⟨h1, h2, h3, h4⟩ := kd15_num kind
  rw [h] at h1 h2 h3 h4
  have h5 : wrap64 2 = 2 := by unfold wrap64; omega
  go_enter Tryd.func5, Tryd.ntmps5
  go_wp2_with fail
  go_ret
  first | exact ⟨rfl, .refl _ _⟩ | exact ⟨rfl, (KeptIn.refl _ _).drew⟩
set_option maxRecDepth 1000000 in
theorem madeResize (kind a b c : Int) (s t u : List UInt8) (w : World) (h : kd15 kind = 3) :
    Calls Tryd.prog 5 #[.int .i64 kind, .int .i64 a, .int .i64 b, .int .i64 c, .string ⟨s.toArray⟩, .string ⟨t.toArray⟩, .string ⟨u.toArray⟩] w fun e w' => e = .returned (valO (mkO 3 a b c s t u)) ∧ KeptIn (· < w.heap.size) w w' := by
  obtain ⟨h1, h2, h3, h4⟩ := kd15_num kind
  rw [h] at h1 h2 h3 h4
  have h5 : wrap64 3 = 3 := by unfold wrap64; omega
  go_enter Tryd.func5, Tryd.ntmps5
  go_wp2_with fail
  go_ret
  first | exact ⟨rfl, .refl _ _⟩ | exact ⟨rfl, (KeptIn.refl _ _).drew⟩
set_option maxRecDepth 1000000 in
theorem madePin (kind a b c : Int) (s t u : List UInt8) (w : World) (h : kd15 kind = 4) :
    Calls Tryd.prog 5 #[.int .i64 kind, .int .i64 a, .int .i64 b, .int .i64 c, .string ⟨s.toArray⟩, .string ⟨t.toArray⟩, .string ⟨u.toArray⟩] w fun e w' => e = .returned (valO (mkO 4 a b c s t u)) ∧ KeptIn (· < w.heap.size) w w' := by
  obtain ⟨h1, h2, h3, h4⟩ := kd15_num kind
  rw [h] at h1 h2 h3 h4
  have h5 : wrap64 4 = 4 := by unfold wrap64; omega
  go_enter Tryd.func5, Tryd.ntmps5
  go_wp2_with fail
  go_ret
  first | exact ⟨rfl, .refl _ _⟩ | exact ⟨rfl, (KeptIn.refl _ _).drew⟩
set_option maxRecDepth 1000000 in
theorem madeFree (kind a b c : Int) (s t u : List UInt8) (w : World) (h : kd15 kind = 5) :
    Calls Tryd.prog 5 #[.int .i64 kind, .int .i64 a, .int .i64 b, .int .i64 c, .string ⟨s.toArray⟩, .string ⟨t.toArray⟩, .string ⟨u.toArray⟩] w fun e w' => e = .returned (valO (mkO 5 a b c s t u)) ∧ KeptIn (· < w.heap.size) w w' := by
  obtain ⟨h1, h2, h3, h4⟩ := kd15_num kind
  rw [h] at h1 h2 h3 h4
  have h5 : wrap64 5 = 5 := by unfold wrap64; omega
  go_enter Tryd.func5, Tryd.ntmps5
  go_wp2_with fail
  go_ret
  first | exact ⟨rfl, .refl _ _⟩ | exact ⟨rfl, (KeptIn.refl _ _).drew⟩
set_option maxRecDepth 1000000 in
theorem madeRead (kind a b c : Int) (s t u : List UInt8) (w : World) (h : kd15 kind = 6) :
    Calls Tryd.prog 5 #[.int .i64 kind, .int .i64 a, .int .i64 b, .int .i64 c, .string ⟨s.toArray⟩, .string ⟨t.toArray⟩, .string ⟨u.toArray⟩] w fun e w' => e = .returned (valO (mkO 6 a b c s t u)) ∧ KeptIn (· < w.heap.size) w w' := by
  obtain ⟨h1, h2, h3, h4⟩ := kd15_num kind
  rw [h] at h1 h2 h3 h4
  have h5 : wrap64 6 = 6 := by unfold wrap64; omega
  go_enter Tryd.func5, Tryd.ntmps5
  go_wp2_with fail
  go_ret
  first | exact ⟨rfl, .refl _ _⟩ | exact ⟨rfl, (KeptIn.refl _ _).drew⟩
set_option maxRecDepth 1000000 in
theorem madeWrite (kind a b c : Int) (s t u : List UInt8) (w : World) (h : kd15 kind = 7) :
    Calls Tryd.prog 5 #[.int .i64 kind, .int .i64 a, .int .i64 b, .int .i64 c, .string ⟨s.toArray⟩, .string ⟨t.toArray⟩, .string ⟨u.toArray⟩] w fun e w' => e = .returned (valO (mkO 7 a b c s t u)) ∧ KeptIn (· < w.heap.size) w w' := by
  obtain ⟨h1, h2, h3, h4⟩ := kd15_num kind
  rw [h] at h1 h2 h3 h4
  have h5 : wrap64 7 = 7 := by unfold wrap64; omega
  go_enter Tryd.func5, Tryd.ntmps5
  go_wp2_with fail
  go_ret
  first | exact ⟨rfl, .refl _ _⟩ | exact ⟨rfl, (KeptIn.refl _ _).drew⟩
set_option maxRecDepth 1000000 in
theorem madeDiscard (kind a b c : Int) (s t u : List UInt8) (w : World) (h : kd15 kind = 8) :
    Calls Tryd.prog 5 #[.int .i64 kind, .int .i64 a, .int .i64 b, .int .i64 c, .string ⟨s.toArray⟩, .string ⟨t.toArray⟩, .string ⟨u.toArray⟩] w fun e w' => e = .returned (valO (mkO 8 a b c s t u)) ∧ KeptIn (· < w.heap.size) w w' := by
  obtain ⟨h1, h2, h3, h4⟩ := kd15_num kind
  rw [h] at h1 h2 h3 h4
  have h5 : wrap64 8 = 8 := by unfold wrap64; omega
  go_enter Tryd.func5, Tryd.ntmps5
  go_wp2_with fail
  go_ret
  first | exact ⟨rfl, .refl _ _⟩ | exact ⟨rfl, (KeptIn.refl _ _).drew⟩
set_option maxRecDepth 1000000 in
theorem madeFlush (kind a b c : Int) (s t u : List UInt8) (w : World) (h : kd15 kind = 9) :
    Calls Tryd.prog 5 #[.int .i64 kind, .int .i64 a, .int .i64 b, .int .i64 c, .string ⟨s.toArray⟩, .string ⟨t.toArray⟩, .string ⟨u.toArray⟩] w fun e w' => e = .returned (valO (mkO 9 a b c s t u)) ∧ KeptIn (· < w.heap.size) w w' := by
  obtain ⟨h1, h2, h3, h4⟩ := kd15_num kind
  rw [h] at h1 h2 h3 h4
  have h5 : wrap64 9 = 9 := by unfold wrap64; omega
  go_enter Tryd.func5, Tryd.ntmps5
  go_wp2_with fail
  go_ret
  first | exact ⟨rfl, .refl _ _⟩ | exact ⟨rfl, (KeptIn.refl _ _).drew⟩
set_option maxRecDepth 1000000 in
theorem madeTick (kind a b c : Int) (s t u : List UInt8) (w : World) (h : kd15 kind = 10) :
    Calls Tryd.prog 5 #[.int .i64 kind, .int .i64 a, .int .i64 b, .int .i64 c, .string ⟨s.toArray⟩, .string ⟨t.toArray⟩, .string ⟨u.toArray⟩] w fun e w' => e = .returned (valO (mkO 10 a b c s t u)) ∧ KeptIn (· < w.heap.size) w w' := by
  obtain ⟨h1, h2, h3, h4⟩ := kd15_num kind
  rw [h] at h1 h2 h3 h4
  have h5 : wrap64 10 = 10 := by unfold wrap64; omega
  go_enter Tryd.func5, Tryd.ntmps5
  go_wp2_with fail
  go_ret
  first | exact ⟨rfl, .refl _ _⟩ | exact ⟨rfl, (KeptIn.refl _ _).drew⟩
set_option maxRecDepth 1000000 in
theorem madeDecay (kind a b c : Int) (s t u : List UInt8) (w : World) (h : kd15 kind = 11) :
    Calls Tryd.prog 5 #[.int .i64 kind, .int .i64 a, .int .i64 b, .int .i64 c, .string ⟨s.toArray⟩, .string ⟨t.toArray⟩, .string ⟨u.toArray⟩] w fun e w' => e = .returned (valO (mkO 11 a b c s t u)) ∧ KeptIn (· < w.heap.size) w w' := by
  obtain ⟨h1, h2, h3, h4⟩ := kd15_num kind
  rw [h] at h1 h2 h3 h4
  have h5 : wrap64 11 = 11 := by unfold wrap64; omega
  go_enter Tryd.func5, Tryd.ntmps5
  go_wp2_with fail
  go_ret
  first | exact ⟨rfl, .refl _ _⟩ | exact ⟨rfl, (KeptIn.refl _ _).drew⟩
set_option maxRecDepth 1000000 in
theorem madeStatus (kind a b c : Int) (s t u : List UInt8) (w : World) (h : kd15 kind = 12) :
    Calls Tryd.prog 5 #[.int .i64 kind, .int .i64 a, .int .i64 b, .int .i64 c, .string ⟨s.toArray⟩, .string ⟨t.toArray⟩, .string ⟨u.toArray⟩] w fun e w' => e = .returned (valO (mkO 12 a b c s t u)) ∧ KeptIn (· < w.heap.size) w w' := by
  obtain ⟨h1, h2, h3, h4⟩ := kd15_num kind
  rw [h] at h1 h2 h3 h4
  have h5 : wrap64 12 = 12 := by unfold wrap64; omega
  go_enter Tryd.func5, Tryd.ntmps5
  go_wp2_with fail
  go_ret
  first | exact ⟨rfl, .refl _ _⟩ | exact ⟨rfl, (KeptIn.refl _ _).drew⟩
set_option maxRecDepth 1000000 in
theorem madeFuse (kind a b c : Int) (s t u : List UInt8) (w : World) (h : kd15 kind = 13) :
    Calls Tryd.prog 5 #[.int .i64 kind, .int .i64 a, .int .i64 b, .int .i64 c, .string ⟨s.toArray⟩, .string ⟨t.toArray⟩, .string ⟨u.toArray⟩] w fun e w' => e = .returned (valO (mkO 13 a b c s t u)) ∧ KeptIn (· < w.heap.size) w w' := by
  obtain ⟨h1, h2, h3, h4⟩ := kd15_num kind
  rw [h] at h1 h2 h3 h4
  have h5 : wrap64 13 = 13 := by unfold wrap64; omega
  go_enter Tryd.func5, Tryd.ntmps5
  go_wp2_with fail
  go_ret
  first | exact ⟨rfl, .refl _ _⟩ | exact ⟨rfl, (KeptIn.refl _ _).drew⟩
set_option maxRecDepth 1000000 in
theorem madeCrash (kind a b c : Int) (s t u : List UInt8) (w : World) (h : kd15 kind = 14) :
    Calls Tryd.prog 5 #[.int .i64 kind, .int .i64 a, .int .i64 b, .int .i64 c, .string ⟨s.toArray⟩, .string ⟨t.toArray⟩, .string ⟨u.toArray⟩] w fun e w' => e = .returned (valO (mkO 14 a b c s t u)) ∧ KeptIn (· < w.heap.size) w w' := by
  obtain ⟨h1, h2, h3, h4⟩ := kd15_num kind
  rw [h] at h1 h2 h3 h4
  have h5 : wrap64 14 = 14 := by unfold wrap64; omega
  go_enter Tryd.func5, Tryd.ntmps5
  go_wp2_with fail
  go_ret
  first | exact ⟨rfl, .refl _ _⟩ | exact ⟨rfl, (KeptIn.refl _ _).drew⟩
theorem oMade (kind a b c : Int) (s t u : List UInt8) (w : World) :
    Calls Tryd.prog 5 #[.int .i64 kind, .int .i64 a, .int .i64 b, .int .i64 c, .string ⟨s.toArray⟩, .string ⟨t.toArray⟩, .string ⟨u.toArray⟩] w fun e w' => e = .returned (valO (mkO (kd15 kind) a b c s t u)) ∧ KeptIn (· < w.heap.size) w w' := by
  obtain ⟨k, hk⟩ : ∃ k, kd15 kind = k := ⟨_, rfl⟩
  have hlt := kd15_lt kind
  rw [hk] at hlt ⊢
  match k, hlt, hk with
  | 0, _, hk => exact madeCreate kind a b c s t u w hk
  | 1, _, hk => exact madeDelete kind a b c s t u w hk
  | 2, _, hk => exact madeSnap kind a b c s t u w hk
  | 3, _, hk => exact madeResize kind a b c s t u w hk
  | 4, _, hk => exact madePin kind a b c s t u w hk
  | 5, _, hk => exact madeFree kind a b c s t u w hk
  | 6, _, hk => exact madeRead kind a b c s t u w hk
  | 7, _, hk => exact madeWrite kind a b c s t u w hk
  | 8, _, hk => exact madeDiscard kind a b c s t u w hk
  | 9, _, hk => exact madeFlush kind a b c s t u w hk
  | 10, _, hk => exact madeTick kind a b c s t u w hk
  | 11, _, hk => exact madeDecay kind a b c s t u w hk
  | 12, _, hk => exact madeStatus kind a b c s t u w hk
  | 13, _, hk => exact madeFuse kind a b c s t u w hk
  | 14, _, hk => exact madeCrash kind a b c s t u w hk
  | n + 15, h, _ => exact absurd h (by omega)

end Go.Proofs.YtlldmebjgidbaaaDoor
