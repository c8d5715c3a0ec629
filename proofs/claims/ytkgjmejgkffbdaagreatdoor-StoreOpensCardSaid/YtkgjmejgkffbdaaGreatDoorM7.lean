import Derived.Test.YtkgjmejgkffbdaaGreatDoorM6
import Derived.Test.YtkgjmejgkffbdaaGreatDoorM1
import Derived.Test.YtkgjmejgkffbdaaGreatDoorChecked
import Derived.Laws.BitsAllLaws
import Derived.WalkSpells
import Derived.WalkLawsBesides
import Derived.RegionTactic
import Derived.Outline
import Derived.Deep.QuietTactic
import Derived.BigQuiet
import Derived.Deep.RegionHeld3
import Derived.LoopTactic
import Derived.Lib.LaidTab
import Derived.Lib.Strings
import Derived.Lib.Hide
/- Package castle's Sum, and the reference's. -/
set_option linter.unusedVariables false
namespace Go.Proofs.YtkgjmejgkffbdaaGreatDoor
open Go.RowKit

/-- The table of half a byte's steps stands. -/
def Tab (w : World) : Prop := ∀ i, i < 16 → w.cell? ⟨0, i, none⟩ = some (.int .u32 (at4 i : Nat))

theorem Tab.lt {w : World} (h : Tab w) : 0 < w.heap.size := by
  have := h 0 (by decide)
  apply Classical.byContradiction
  intro hn
  rw [World.cell?, Array.getElem?_eq_none (by simpa using Nat.not_lt.1 hn)] at this
  cases this
theorem Tab.kept {X : Nat → Prop} {w w' : World} (h : Tab w) (hk : KeptIn X w w') (hX : X 0) : Tab w' :=
  fun i hi => (World.cell?_of_block (a := ⟨0, i, none⟩) (hk.block _ hX)).trans (h i hi)

theorem crc_take (l : List UInt8) (i : Nat) (h : i < l.length) (c : Nat) : crc (l.take (i + 1)) c = full (crc (l.take i) c ^^^ l[i].toNat) := by
  rw [List.take_succ_eq_append_getElem h, crc_append]
  rfl

set_option maxRecDepth 100000 in
theorem castleSum (l : List UInt8) (w : World) (hT : Tab w) (hs : l.length ≤ 2147483647) :
    Calls Tryz.prog 94 #[.string ⟨l.toArray⟩] w fun e w' => e = .returned (.int .u32 (sumOf l)) ∧ w = w' := by
  have hlen1 : (l.length : Int) ≤ 2147483647 := by omega
  have HT := Lib.hid hT
  clear hT hs
  go_enter Tryz.func94, Tryz.ntmps94
  go_wp2
  go_loop [3, 7] (fun n c => ∃ j : Nat, j ≤ l.length ∧ c = .int .i64 j ∧ n = .int .u32 (crc (l.take j) 4294967295 : Nat)) (fun _ c => l.length - (intOf c).toNat)
  case atStart => exact ⟨0, Nat.zero_le _, rfl, rfl⟩
  case round =>
    obtain ⟨j, hj, rfl, rfl⟩ := hrel
    by_cases hlt : j < l.length
    · have b0 : (0 : Int) ≤ (j : Int) := by omega
      have b1 : (j : Int) < (l.length : Int) := by omega
      have hlt' : j < (⟨l.toArray⟩ : ByteArray).size := Nat.lt_of_lt_of_eq hlt (List.size_toArray ..).symm
      have hstep := crc_take l j hlt 4294967295
      have hc := crc_lt (l.take j) 4294967295 (by decide)
      generalize crc (l.take j) 4294967295 = c at *
      have hb : (⟨l.toArray⟩ : ByteArray)[j]'hlt' = l[j] := rfl
      have hb' := l[j].toNat_lt
      obtain ⟨x, hx, hx0⟩ : ∃ x : Nat, c ^^^ l[j].toNat = x ∧ x < 4294967296 := ⟨_, rfl, Nat.xor_lt_two_pow (n := 32) hc (by omega)⟩
      have h1 : bits .xor .u32 (c : Int) (((⟨l.toArray⟩ : ByteArray)[j]'hlt').toNat % 4294967296 : Int) = (x : Int) := by
        rw [hb, ← hx, show ((l[j].toNat : Nat) : Int) % 4294967296 = ((l[j].toNat : Nat) : Int) from by omega]
        exact u32_xor_nat _ _ hc (by omega)
      have x0 : (0 : Int) ≤ (x : Int) := by omega
      have x1 : (x : Int) ≤ 4294967295 := by omega
      rw [hx] at hstep
      have hm1 : x % 16 < 16 := Nat.mod_lt _ (by decide)
      have c1 := HT.out _ hm1
      obtain ⟨y, hy, hy0⟩ : ∃ y : Nat, half x = y ∧ y < 4294967296 := ⟨_, rfl, half_lt _ hx0⟩
      have h2 : bits .xor .u32 ((x : Int) / 16) ((at4 (x % 16) : Nat) : Int) = (y : Int) := by
        rw [show (x : Int) / 16 = ((x / 16 : Nat) : Int) from by omega, u32_xor_nat _ _ (by omega) (at4_lt _ hm1), ← hy, half, Nat.shiftRight_eq_div_pow]
      have y0 : (0 : Int) ≤ (y : Int) := by omega
      have y1 : (y : Int) ≤ 4294967295 := by omega
      have hm2 : y % 16 < 16 := Nat.mod_lt _ (by decide)
      have c2 := HT.out _ hm2
      have h3 : bits .xor .u32 ((y : Int) / 16) ((at4 (y % 16) : Nat) : Int) = ((full x : Nat) : Int) := by
        rw [show (y : Int) / 16 = ((y / 16 : Nat) : Int) from by omega, u32_xor_nat _ _ (by omega) (at4_lt _ hm2), full, hy, half, Nat.shiftRight_eq_div_pow]
      have HST := Lib.hid hstep
      clear hstep hb hb' hc hx hy hm1 hm2
      generalize at4 (x % 16) = t1 at *
      generalize at4 (y % 16) = t2 at *
      go_wp2
      go_round
      case rel => exact ⟨j + 1, by omega, by go_num, by rw [HST.out]⟩
      case measure => simp [intOf]; omega
    · obtain rfl : j = l.length := by omega
      rw [List.take_length]
      have hc := crc_lt l 4294967295 (by decide)
      have h1 : bits .xor .u32 IntKind.u32.max (crc l 4294967295 : Nat) = ((sumOf l : Nat) : Int) := by
        rw [show IntKind.u32.max = 4294967295 from rfl, sumOf_xor, Nat.xor_comm]
        exact u32_xor_nat 4294967295 _ (by decide) hc
      have H1 := Lib.hid h1
      clear hc h1
      go_wp2
      go_ret
      exact ⟨congrArg (fun v => Ending.returned (Value.int .u32 v)) H1.out, rfl⟩

theorem castleSum' (s : ByteArray) (w : World) (hT : Tab w) (hs : s.size ≤ 2147483647) :
    Calls Tryz.prog 94 #[.string s] w fun e w' => e = .returned (.int .u32 (sumOf s.data.toList)) ∧ w = w' := by
  have := castleSum s.data.toList w hT (by rw [Array.length_toList]; exact hs)
  rwa [Lib.mk_data] at this

set_option maxRecDepth 100000 in
theorem refSum (l : List UInt8) (w : World) (hs : l.length ≤ 2147483647) :
    Calls Tryz.prog 90 #[.string ⟨l.toArray⟩] w fun e w' => e = .returned (.int .u32 (sumOf l)) ∧ w = w' := by
  have hlen1 : (l.length : Int) ≤ 2147483647 := by omega
  clear hs
  go_enter Tryz.func90, Tryz.ntmps90
  go_wp2
  go_loop [3, 4] (fun n c => ∃ j : Nat, j ≤ l.length ∧ c = .int .i64 j ∧ n = .int .u32 (crc (l.take j) 4294967295 : Nat)) (fun _ c => l.length - (intOf c).toNat)
  case atStart => exact ⟨0, Nat.zero_le _, rfl, rfl⟩
  case round =>
    obtain ⟨j, hj, rfl, rfl⟩ := hrel
    by_cases hlt : j < l.length
    · have b0 : (0 : Int) ≤ (j : Int) := by omega
      have b1 : (j : Int) < (l.length : Int) := by omega
      have hlt' : j < (⟨l.toArray⟩ : ByteArray).size := Nat.lt_of_lt_of_eq hlt (List.size_toArray ..).symm
      have hstep := crc_take l j hlt 4294967295
      have hc := crc_lt (l.take j) 4294967295 (by decide)
      generalize crc (l.take j) 4294967295 = c at *
      have hb : (⟨l.toArray⟩ : ByteArray)[j]'hlt' = l[j] := rfl
      obtain ⟨b, hbv, hb'⟩ : ∃ b : Nat, l[j].toNat = b ∧ b < 256 := ⟨_, rfl, l[j].toNat_lt⟩
      have hbyte : ((⟨l.toArray⟩ : ByteArray)[j]'hlt').toNat = b := by rw [hb, hbv]
      rw [hbv, ← within_eight c b hb'] at hstep
      have HST := Lib.hid hstep
      have HC := Lib.hid hc
      have HB := Lib.hid hb'
      clear hstep hb hbv hc hb'
      go_wp2
      go_loop [3, 5] (fun n c' => ∃ t : Nat, t ≤ 8 ∧ c' = .int .i64 t ∧ n = .int .u32 (within c b t : Nat)) (fun _ c' => 8 - (intOf c').toNat)
      case atStart => exact ⟨0, Nat.zero_le _, rfl, by rw [within_zero]⟩
      case round =>
        obtain ⟨t, ht, rfl, rfl⟩ := hrel
        by_cases hlt8 : t < 8
        · have t0 : (0 : Int) ≤ (t : Int) := by omega
          have t1 : (t : Int) < 8 := by omega
          have hn := within_lt c b t HC.out HB.out
          have hsu := within_succ c b t
          obtain ⟨n, hn'⟩ : ∃ n : Nat, within c b t = n := ⟨_, rfl⟩
          rw [hn'] at hn hsu
          rw [hn']
          obtain ⟨p, hp, hp2⟩ : ∃ p : Nat, n % 2 = p ∧ p < 2 := ⟨_, rfl, Nat.mod_lt _ (by decide)⟩
          obtain ⟨q, hq, hq2⟩ : ∃ q : Nat, b >>> t % 2 = q ∧ q < 2 := ⟨_, rfl, Nat.mod_lt _ (by decide)⟩
          have hd : (b : Int) / 2 ^ t = ((b >>> t : Nat) : Int) := by rw [Nat.shiftRight_eq_div_pow]; simp
          have hbt : b >>> t < 4294967296 := by
            rw [Nat.shiftRight_eq_div_pow]
            have := Nat.div_le_self b (2 ^ t)
            have := HB.out
            omega
          have a1 : bits .and .u32 (n : Int) 1 = (p : Int) := by
            rw [← hp]
            exact (u32_and_nat n 1 hn (by decide)).trans (by rw [Nat.and_one_is_mod])
          have a2 : bits .and .u32 ((b : Int) / 2 ^ t % 4294967296) 1 = (q : Int) := by
            rw [hd, show ((b >>> t : Nat) : Int) % 4294967296 = ((b >>> t : Nat) : Int) from Int.emod_eq_of_lt (Int.natCast_nonneg _) (Int.ofNat_lt.2 hbt), ← hq]
            exact (u32_and_nat (b >>> t) 1 hbt (by decide)).trans (by rw [Nat.and_one_is_mod])
          have a3 : bits .xor .u32 (p : Int) (q : Int) = ((p ^^^ q : Nat) : Int) := u32_xor_nat _ _ (by omega) (by omega)
          have n0 : (0 : Int) ≤ (n : Int) := by omega
          have n1 : (n : Int) ≤ 4294967295 := by omega
          rw [hp, hq] at hsu
          have hpq : p ^^^ q < 2 := Nat.xor_lt_two_pow (n := 1) hp2 hq2
          by_cases h1 : p ^^^ q = 1
          · rw [h1] at a3 hsu
            replace a3 : bits .xor .u32 (p : Int) (q : Int) = 1 := a3
            have a4 : bits .xor .u32 ((n : Int) / 2) 2197175160 = ((within c b (t + 1) : Nat) : Int) := by
              rw [hsu, Nat.shiftRight_eq_div_pow, show (n : Int) / 2 = ((n / 2 : Nat) : Int) from by omega]
              exact u32_xor_nat (n / 2) 2197175160 (by omega) (by decide)
            clear hn hsu hn' hp hp2 hq hq2 hd hbt hpq h1
            go_wp2
            go_round
            case rel => exact ⟨t + 1, by omega, by go_num, rfl⟩
            case measure => simp [intOf]; omega
          · have h0 : p ^^^ q = 0 := by omega
            rw [h0] at a3 hsu
            replace a3 : bits .xor .u32 (p : Int) (q : Int) = 0 := a3
            have a4 : (n : Int) / 2 = ((within c b (t + 1) : Nat) : Int) := by
              rw [hsu, Nat.shiftRight_eq_div_pow, show pol 0 = 0 from rfl, Nat.xor_zero]
              omega
            have A4 := Lib.hid a4
            clear hn hsu hn' hp hp2 hq hq2 hd hbt hpq h1 h0 a4
            go_wp2
            go_round
            case rel => exact ⟨t + 1, by omega, by go_num, by rw [A4.out]⟩
            case measure => simp [intOf]; omega
        · obtain rfl : t = 8 := by omega
          go_wp2
          go_round
          case rel => exact ⟨j + 1, by omega, by go_num, by rw [HST.out]⟩
          case measure => simp [intOf]; omega
    · obtain rfl : j = l.length := by omega
      rw [List.take_length]
      have hc := crc_lt l 4294967295 (by decide)
      have h1 : bits .xor .u32 (crc l 4294967295 : Nat) 4294967295 = ((sumOf l : Nat) : Int) := by
        rw [sumOf_xor]
        exact u32_xor_nat _ 4294967295 hc (by decide)
      have H1 := Lib.hid h1
      clear hc h1
      go_wp2
      go_ret
      exact ⟨congrArg (fun v => Ending.returned (Value.int .u32 v)) H1.out, rfl⟩

end Go.Proofs.YtkgjmejgkffbdaaGreatDoor
/- What stood still stands. -/
set_option linter.unusedVariables false
namespace Go.Proofs.YtkgjmejgkffbdaaGreatDoor
open Go.RowKit

theorem Tab.old {w w' : World} (h : Tab w) (hk : KeptIn (· < w.heap.size) w w') : Tab w' := h.kept hk h.lt
theorem KeptIn.step {w V W : World} (h : KeptIn (· < w.heap.size) w V) (k : KeptIn (· < V.heap.size) V W) : KeptIn (· < w.heap.size) w W := h.trans (k.mono fun _ hk => Nat.lt_of_lt_of_le hk h.size)

end Go.Proofs.YtkgjmejgkffbdaaGreatDoor
