/- ChunkExact's walk. -/
import Derived.Test.YtmfnapbahkonhaaEy18
import Derived.Test.YtmfnapbahkonhaaArgs
import Derived.Test.YtmfnapbahkonhaaNums
import Derived.Test.YtmfnapbahkonhaaFrU
import Derived.Deep.RegionLaw
set_option linter.unusedVariables false
namespace Go.Proofs.Ytmfnapbahkonhaa
open Go.RowKit

/-- A slice of deeds that came in. -/
def IsActs18 (w : World) (a : Option Addr) (len : Nat) : Prop :=
  len = 0 ∨ ∃ b off, a = some ⟨b, off, none⟩ ∧ b < w.heap.size ∧ len ≤ maxLen ∧ ∀ i, i < len → ∃ x : A18, (I64 x.at' ∧ I64 x.n) ∧
    w.cell? ⟨b, off + i * 8, none⟩ = some (.int .i64 x.kd) ∧ w.cell? ⟨b, off + i * 8 + 1, none⟩ = some (.int .i64 x.a.ti) ∧ w.cell? ⟨b, off + i * 8 + 2, none⟩ = some (.int .i64 x.a.sl) ∧ w.cell? ⟨b, off + i * 8 + 3, none⟩ = some (.int .i64 x.c.ti) ∧
    w.cell? ⟨b, off + i * 8 + 4, none⟩ = some (.int .i64 x.c.sl) ∧ w.cell? ⟨b, off + i * 8 + 5, none⟩ = some (.int .i64 x.at') ∧ w.cell? ⟨b, off + i * 8 + 6, none⟩ = some (.int .i64 x.n) ∧ w.cell? ⟨b, off + i * 8 + 7, none⟩ = some (.int .u8 x.b.toNat)
theorem IsActs18.len_le {w : World} {a : Option Addr} {len : Nat} (h : IsActs18 w a len) : len ≤ maxLen := by
  rcases h with rfl | ⟨_, _, _, _, h, _⟩
  · exact Nat.zero_le _
  · exact h

/-- Which slots are forgotten: between rounds; behind the first test; behind the deed. -/
def mkL18 : List Bool := [true, true, false, false, true, true, true, true, true, true, false, false, false, true, false, true, true, true, true, true, true, true, true, true, true, true, true, true, true, true, true, true, true, true, true, true, true, true, true, true, true, true, true, true, true, true, true, true, true, true, true, true, true, true, true, true, true, true, true, true, true, true, true, true, true, true, true, true, true, true, true, true, true, true, true, true, true, true, true, true, true, true, true, true, true, true, true, true, true, true, true, true, true, true, true, true, true, true, true, true, true, true, true, true, true, true, true, true, true, true, true, true, true, true, true, true, true, true, true, true, true, true, true, true, true, true, true, true, true, true, true, true, true, true, true, true, true, true, true, true, true, true, true, true, true, true, true, true, true, true, true, true, true, true, true, true, true, true, true, true, true, true, true, true, true, true, true, true, true, true, true, true, true, true, true, true, true, true, true, true, true, true, true, true, true, true, true, true, true, true, true, true, true, true, true, true, true, true, true, true, true, true, true, true, true, true, true, true, true, true, true, true, true, true, true, true, true, true, true, true, true, true, true, true, true, true, true, true, true, true, true, true, true, true, true, true, true, true, true, true, true, true, true, true, true, true, true, true, true, true, true, true, true, true, true, true, true, true, true, true, true, true, true, true, true, true, true, true, true, true, true, true, true, true, true, true, true, true, true, true, true, true, true, true, true, true, true, true, true, true, true, true, true, true, true, true, true, true, true, true, true, true, true, true, true, true, true, true, true, true, true, true, true, true, true, true, true, true, true, true, true, true, true, true, true, true, true, true, true, true, true, true, true, true, true, true, true, true, true, true, true, true, true, true, true, true, true, true, true, true, true, true, true, true, true, true, true, true, true, true, true, true, true, true, true, true, true, true, true, true, true, true, true, true, true, true, true, true, true, true, true, true, true, true, true, true, true, true, true, true, true, true, true, true, true, true, true, true, true, true, true, true, true, true, true, true, true, true, true, true, true, true, true, true, true, true, true, true, true, true, true, true, true, true, true, true, true, true, true, true, true, true, true, true, true, true, true, true, true, true, true, true, true, true, true, true, true, true, true, true, true, true, true, true, true, true, true, true, true, true, true, true, true, true, true, true, true, true, true, true, true, true, true, true, true, true, true, true, true]
def mkA18 : List Bool := [true, true, false, false, true, true, true, true, true, true, false, false, false, true, false, false, false, false, false, true, true, true, true, true, true, true, true, true, true, true, true, true, true, true, true, true, true, true, true, true, true, true, true, true, true, true, true, true, true, true, true, true, true, true, true, true, true, true, true, true, true, true, true, true, true, true, true, true, true, true, true, true, true, true, true, true, true, true, true, true, true, true, true, true, true, true, true, true, true, true, true, true, true, true, true, true, true, true, true, true, true, true, true, true, true, true, true, true, true, true, true, true, true, true, true, true, true, true, true, true, true, true, true, true, true, true, true, true, true, true, true, true, true, true, true, true, true, true, true, true, true, true, true, true, true, true, true, true, true, true, true, true, true, true, true, true, true, true, true, true, true, true, true, true, true, true, true, true, true, true, true, true, true, true, true, true, true, true, true, true, true, true, true, true, true, true, true, true, true, true, true, true, true, true, true, true, true, true, true, true, true, true, true, true, true, true, true, true, true, true, true, true, true, true, true, true, true, true, true, true, true, true, true, true, true, true, true, true, true, true, true, true, true, true, true, true, true, true, true, true, true, true, true, true, true, true, true, true, true, true, true, true, true, true, true, true, true, true, true, true, true, true, true, true, true, true, true, true, true, true, true, true, true, true, true, true, true, true, true, true, true, true, true, true, true, true, true, true, true, true, true, true, true, true, true, true, true, true, true, true, true, true, true, true, true, true, true, true, true, true, true, true, true, true, true, true, true, true, true, true, true, true, true, true, true, true, true, true, true, true, true, true, true, true, true, true, true, true, true, true, true, true, true, true, true, true, true, true, true, true, true, true, true, true, true, true, true, true, true, true, true, true, true, true, true, true, true, true, true, true, true, true, true, true, true, true, true, true, true, true, true, true, true, true, true, true, true, true, true, true, true, true, true, true, true, true, true, true, true, true, true, true, true, true, true, true, true, true, true, true, true, true, true, true, true, true, true, true, true, true, true, true, true, true, true, true, true, true, true, true, true, true, true, true, true, true, true, true, true, true, true, true, true, true, true, true, true, true, true, true, true, true, true, true, true, true, true, true, true, true, true, true, true, true, true, true, true, true, true, true, true, true, true, true, true, true, true, true, true]
def mkR18 : List Bool := [true, true, false, false, true, true, true, true, true, true, false, false, false, true, false, false, false, false, true, true, false, false, true, true, true, true, true, true, true, true, true, true, true, true, true, true, true, true, true, true, true, true, true, true, true, true, true, true, true, true, true, true, true, true, true, true, true, true, true, true, true, true, true, true, true, true, true, true, true, true, true, true, true, true, true, true, true, true, true, true, true, true, true, true, true, true, true, true, true, true, true, true, true, true, true, true, true, true, true, true, true, true, true, true, true, true, true, true, true, true, true, true, true, true, true, true, true, true, true, true, true, true, true, true, true, true, true, true, true, true, true, true, true, true, true, true, true, true, true, true, true, true, true, true, true, true, true, true, true, true, true, true, true, true, true, true, true, true, true, true, true, true, true, true, true, true, true, true, true, true, true, true, true, true, true, true, true, true, true, true, true, true, true, true, true, true, true, true, true, true, true, true, true, true, true, true, true, true, true, true, true, true, true, true, true, true, true, true, true, true, true, true, true, true, true, true, true, true, true, true, true, true, true, true, true, true, true, true, true, true, true, true, true, true, true, true, true, true, true, true, true, true, true, true, true, true, true, true, true, true, true, true, true, true, true, true, true, true, true, true, true, true, true, true, true, true, true, true, true, true, true, true, true, true, true, true, true, true, true, true, true, true, true, true, true, true, true, true, true, true, true, true, true, true, true, true, true, true, true, true, true, true, true, true, true, true, true, true, true, true, true, true, true, true, true, true, true, true, true, true, true, true, true, true, true, true, true, true, true, true, true, true, true, true, true, true, true, true, true, true, true, true, true, true, true, true, true, true, true, true, true, true, true, true, true, true, true, true, true, true, true, true, true, true, true, true, true, true, true, true, true, true, true, true, true, true, true, true, true, true, true, true, true, true, true, true, true, true, true, true, true, true, true, true, true, true, true, true, true, true, true, true, true, true, true, true, true, true, true, true, true, true, true, true, true, true, true, true, true, true, true, true, true, true, true, true, true, true, true, true, true, true, true, true, true, true, true, true, true, true, true, true, true, true, true, true, true, true, true, true, true, true, true, true, true, true, true, true, true, true, true, true, true, true, true, true, true, true, true, true, true, true, true, true, true, true, true, true, true]
def mkS18 : List Bool := [true, true, false, false, true, true, true, true, true, true, false, false, false, true, false, false, true, true, true, true, true, true, true, true, true, true, true, true, true, true, true, true, true, true, true, true, true, true, true, true, true, true, true, true, true, true, true, true, true, true, true, true, true, true, true, true, true, true, true, true, true, true, true, true, true, true, true, true, true, true, true, true, true, true, true, true, true, true, true, true, true, true, true, true, true, true, true, true, true, true, true, true, true, true, true, true, true, true, true, true, true, true, true, true, true, true, true, true, true, true, true, true, true, true, true, true, true, true, true, true, true, true, true, true, true, true, true, true, true, true, true, true, true, true, true, true, true, true, true, true, true, true, true, true, true, true, true, true, true, true, true, true, true, true, true, true, true, true, true, true, true, true, true, true, true, true, true, true, true, true, true, true, true, true, true, true, true, true, true, true, true, true, true, true, true, true, true, true, true, true, true, true, true, true, true, true, true, true, true, true, true, true, true, true, true, true, true, true, true, true, true, true, true, true, true, true, true, true, true, true, true, true, true, true, true, true, true, true, true, true, true, true, true, true, true, true, true, true, true, true, true, true, true, true, true, true, true, true, true, true, true, true, true, true, true, true, true, true, true, true, true, true, true, true, true, true, true, true, true, true, true, true, true, true, true, true, true, true, true, true, true, true, true, true, true, true, true, true, true, true, true, true, true, true, true, true, true, true, true, true, true, true, true, true, true, true, true, true, true, true, true, true, true, true, true, true, true, true, true, true, true, true, true, true, true, true, true, true, true, true, true, true, true, true, true, true, true, true, true, true, true, true, true, true, true, true, true, true, true, true, true, true, true, true, true, true, true, true, true, true, true, true, true, true, true, true, true, true, true, true, true, true, true, true, true, true, true, true, true, true, true, true, true, true, true, true, true, true, true, true, true, true, true, true, true, true, true, true, true, true, true, true, true, true, true, true, true, true, true, true, true, true, true, true, true, true, true, true, true, true, true, true, true, true, true, true, true, true, true, true, true, true, true, true, true, true, true, true, true, true, true, true, true, true, true, true, true, true, true, true, true, true, true, true, true, true, true, true, true, true, true, true, true, true, true, true, true, true, true, true, true, true, true, true, true, true, true, true, true]
/-- Behind a deed's first calls. -/
def St18 (w : World) (k m u sz b : Nat) (D L : Nat → Nat) (y : Nat) (x : A18) (p : Pw) (T : Nat → Dsk) (V : Nat → Value) (F : Nat → List (List UInt8)) (W : World) : Prop := Ex18 w k m u sz b D L p T V F W ∧ Sy18 T F ∧ BoxA18 y x W
theorem St18.old {w : World} {k m u sz b : Nat} {D L : Nat → Nat} {y : Nat} {x : A18} {p : Pw} {T : Nat → Dsk} {V : Nat → Value} {F : Nat → List (List UInt8)} {W W' : World} (h : St18 w k m u sz b D L y x p T V F W) (hk : KeptIn (· < W.heap.size) W W') : St18 w k m u sz b D L y x p T V F W' :=
  ⟨h.1.old hk, h.2.1, h.2.2.old hk⟩
theorem St18.fin {w : World} {k m u sz b j : Nat} {D L : Nat → Nat} {y : Nat} {x : A18} {p : Pw} {T : Nat → Dsk} {V : Nat → Value} {F : Nat → List (List UInt8)} {W : World} (h : St18 w k m u sz b D L y x p T V F W) (hb : b ≤ 20 * (j + 1)) :
    ∃ (p' : Pw) (T' : Nat → Dsk) (F' : Nat → List (List UInt8)) (W' : World), W' = W ∧ Hid (Ex18 w k m u sz (20 * (j + 1)) D L p' T' V F' W' ∧ Sy18 T' F') := ⟨p, T, F, W, rfl, Lib.hid ⟨h.1.le hb, h.2.1⟩⟩
theorem bnd0 (j : Nat) : 20 * j ≤ 20 * (j + 1) := by omega
theorem bnd1 (j : Nat) {n : Nat} (h : n ≤ 20) : 20 * j + n ≤ 20 * (j + 1) := by omega
/-- Written, then put. -/
theorem St18.wp {w : World} {k m u sz b n g t : Nat} {l : List UInt8} {D L : Nat → Nat} {y : Nat} {x : A18} {p : Pw} {T : Nat → Dsk} {V : Nat → Value} {F : Nat → List (List UInt8)} {W W1 W2 W3 : World} (h : St18 w k m u sz b D L y x p T V F W) (ht : t < 2) (hw : Wr18 k m sz p T t n g l W W1) (hk : KeptIn (· < W1.heap.size) W1 W2)
    (hE : Ex18 w k m u sz (b + n) D L (Pw.go n p).2 (upT T t ((T t).wr n (g : Int) l n)) V (upN F t (putF (F t) g l n)) W3) (hp : KeptIn (fun x => x < W2.heap.size ∧ (V t).ownBlock ≠ some x) W2 W3) :
    St18 w k m u sz (b + n) D L y x (Pw.go n p).2 (upT T t ((T t).wr n (g : Int) l n)) V (upN F t (putF (F t) g l n)) W3 := by
  have h1 := h.1.wr ht hw
  have b1 := h.2.2.wr h.1 ht hw
  exact ⟨hE, h.2.1.put ht, (b1.old hk).put (h1.old hk) ht hp⟩

set_option maxHeartbeats 8000000 in
set_option maxRecDepth 100000 in
theorem exaW18 (s0 s1 : ByteArray) (size : Int) (a : Option Addr) (len cap : Nat) (w : World) (h0 : s0.size ≤ maxLen) (h1 : s1.size ≤ maxLen) (hsz : (Lit.int .i64 size).wf = true) (w0 : IsActs18 w a len) :
    Calls Try.prog 3 #[.string s0, .string s1, .int .i64 size, .slice a len cap] w fun e w' => e = .returned (.bool true) ∧ KeptIn (· < w.heap.size) w w' := by
  have hlen := w0.len_le
  obtain ⟨l0, rfl⟩ : ∃ l : List UInt8, s0 = ⟨l.toArray⟩ := ⟨s0.data.toList, (Lib.mk_data s0).symm⟩
  obtain ⟨l1, rfl⟩ : ∃ l : List UInt8, s1 = ⟨l.toArray⟩ := ⟨s1.data.toList, (Lib.mk_data s1).symm⟩
  have hl0 : l0.length ≤ maxLen := by rwa [show (⟨l0.toArray⟩ : ByteArray).size = l0.length from List.size_toArray ..] at h0
  have hl1 : l1.length ≤ maxLen := by rwa [show (⟨l1.toArray⟩ : ByteArray).size = l1.length from List.size_toArray ..] at h1
  unfold maxLen at hlen hl0 hl1
  have HL : Hid (l0.length ≤ maxLen ∧ l1.length ≤ maxLen) := Lib.hid ⟨hl0, hl1⟩
  have bl : (len : Int) ≤ 9223372036854775807 := by omega
  have b0 : (l0.length : Int) ≤ 9223372036854775807 := by omega
  have b1 : (l1.length : Int) ≤ 9223372036854775807 := by omega
  have W1 := Lib.hid w0
  clear w0 hlen h0 h1 hl0 hl1
  go_enter Try.func3, Try.ntmps3
  go_wp2_with (go_at_call 6; refine (awake18 w).mono ?_)
  rintro e wa ⟨rfl, ka⟩
  have KA := Lib.hid ka
  clear ka
  by_cases g0 : (480 : Int) < (l0.length : Int)
  · go_wp2
    go_ret
    exact ⟨rfl, KA.out⟩
  have g0' : decide ((480 : Int) < (l0.length : Int)) = false := decide_eq_false g0
  by_cases g1 : (480 : Int) < (l1.length : Int)
  · go_wp2
    go_ret
    exact ⟨rfl, KA.out⟩
  have g1' : decide ((480 : Int) < (l1.length : Int)) = false := decide_eq_false g1
  have h30 : Hid (l0.length ≤ 480 ∧ l1.length ≤ 480) := Lib.hid ⟨by omega, by omega⟩
  have C1 := Lib.hid (vNew (w := w) wa KA.out)
  clear KA
  go_wp2_with (go_at_call 7; refine C1.out.mono ?_)
  rintro e wb ⟨m, rfl, hp1, hm1, hk1⟩
  have C2 := Lib.hid (uOf0 wb hk1 hp1 hm1 l0 (l0.length / 16) HL.out.1 (by have := h30.out; omega))
  clear hp1 hm1 hk1 C1
  go_wp2_with (go_at_call 8; refine C2.out.mono ?_)
  rintro e wc ⟨d, s, bb, rfl, hd3⟩
  have C3 := Lib.hid (uOf hd3 l1 (l1.length / 16) HL.out.2 (by have := h30.out; omega))
  clear hd3 C2
  go_wp2_with (go_at_call 8; refine C3.out.mono ?_)
  rintro e wd ⟨d2, s2, b2, rfl, hd4⟩
  obtain ⟨T, hT⟩ : ∃ T, mkT ⟨d, s, bb, 0, secs l0 (l0.length / 16), fun _ => none⟩ ⟨d2, s2, b2, 0, secs l1 (l1.length / 16), fun _ => none⟩ = T := ⟨_, rfl⟩
  rw [hT] at hd4
  have e0 : (T 0).d = d := by rw [← hT]; rfl
  have e1 : (T 1).d = d2 := by rw [← hT]; rfl
  have n0 : (T 0).S.length = l0.length / 16 := by rw [← hT]; exact secs_length _ _
  have n1 : (T 1).S.length = l1.length / 16 := by rw [← hT]; exact secs_length _ _
  by_cases hc : canC (l0.length / 16) (l1.length / 16) size = true
  · have hq := hc
    simp only [canC, Bool.and_eq_true, decide_eq_true_eq] at hq
    obtain ⟨sz, rfl⟩ : ∃ sz : Nat, size = (sz : Int) := ⟨size.toNat, by omega⟩
    have HSZ : Hid (1 ≤ sz ∧ sz ≤ 8) := Lib.hid (by omega)
    have s1' : ¬ (sz : Int) < 1 := by omega
    have s8' : ¬ (8 : Int) < (sz : Int) := by omega
    have s8n : sz ≤ 8 := by omega
    have t0 : ¬ ((l0.length : Int) / 16 < (sz : Int)) := by omega
    have t1 : ¬ ((l1.length : Int) / 16 < (sz : Int)) := by omega
    have t0n : decide (l0.length / 16 < sz) = false := by simp; omega
    have t1n : decide (l1.length / 16 < sz) = false := by simp; omega
    have cn := uNew hd4 sz (by rw [n0, n1]; exact hc)
    rw [e0, e1] at cn
    have C4 := Lib.hid cn
    have HT : Hid ((∀ t, t < 2 → (T t).N ≤ 0) ∧ (∀ t, t < 2 → (T t).d = pairN d d2 t) ∧ (∀ t, t < 2 → (T t).S.length = pairN (l0.length / 16) (l1.length / 16) t) ∧ Sy18 T (pairN (secs l0 (l0.length / 16)) (secs l1 (l1.length / 16)))) := Lib.hid (by
      have hh : ∀ P : Nat → Prop, P 0 → P 1 → ∀ t, t < 2 → P t := fun P h0 h1 t ht => by
        rcases (by omega : t = 0 ∨ t = 1) with rfl | rfl
        · exact h0
        · exact h1
      refine ⟨hh _ ?_ ?_, hh _ e0 e1, hh _ n0 n1, hh _ ?_ ?_⟩
      · rw [← hT]; exact Nat.le_refl _
      · rw [← hT]; exact Nat.le_refl _
      · rw [← hT]; exact (flushed_none (S := secs l0 (l0.length / 16))).symm
      · rw [← hT]; exact (flushed_none (S := secs l1 (l1.length / 16))).symm)
    clear hc hq hT hd4 cn e0 e1 n0 n1 C3
    go_wp2_with (go_at_call 9; refine C4.out.mono ?_)
    rintro e we ⟨rfl, hd5⟩
    obtain ⟨k, hk⟩ : ∃ k, wd.heap.size = k := ⟨_, rfl⟩
    rw [hk] at hd5 ⊢
    have HD5 := Lib.hid hd5
    have CS := Lib.hid (ckSize hd5.dk)
    clear hd5 C4 hk
    go_wp2_with (go_at_call 10; refine CS.out.mono ?_)
    rintro e _ ⟨rfl, rfl⟩
    have CR := Lib.hid (r18New l0 l1 (l0.length / 16) (l1.length / 16) sz we h30.out.1 h30.out.2 rfl rfl)
    clear CS
    go_wp2_with (go_at_call 11; refine CR.out.mono ?_)
    rintro e wf ⟨rfl, V, hV, hkf⟩
    have hJ : Ex18 w k m we.heap.size sz 0 (pairN d d2) (pairN (l0.length / 16) (l1.length / 16)) pw0 T V (pairN (secs l0 (l0.length / 16)) (secs l1 (l1.length / 16))) wf := by
      have hz := HD5.out.kept.size
      refine ⟨HD5.out.old hkf, ⟨hV.hu, hz, fun t ht => ⟨(hV.row t ht).1, ?_⟩, hV.ne⟩, pw0_free, HT.out.1, fun t ht => ?_, fun t ht => ?_, HT.out.2.1, HT.out.2.2.1⟩
      · rcases (hV.row t ht).2 with h9 | ⟨g, cap, cur, h2, h3, h4⟩
        · exact .inl h9
        · exact .inr ⟨g, cap, cur, h2, Nat.le_trans hz h3, h4⟩
      · rw [HT.out.2.2.1 t ht]
        rcases (by omega : t = 0 ∨ t = 1) with rfl | rfl <;> exact secs_length _ _
      · rcases (by omega : t = 0 ∨ t = 1) with rfl | rfl
        · exact secs_len l0 _ (by omega)
        · exact secs_len l1 _ (by omega)
    obtain ⟨u, hu⟩ : ∃ u, we.heap.size = u := ⟨_, rfl⟩
    rw [hu] at hJ ⊢
    have HJ0 := Lib.hid (And.intro hJ HT.out.2.2.2)
    generalize pairN (secs l0 (l0.length / 16)) (secs l1 (l1.length / 16)) = F0 at HJ0
    have HDD : Hid (pairN d d2 0 = d ∧ pairN d d2 1 = d2) := Lib.hid ⟨rfl, rfl⟩
    generalize pairN d d2 = D at *
    generalize pairN (l0.length / 16) (l1.length / 16) = L at *
    clear hJ hkf hV CR HT hu HD5 h30 HL
    go_wp2_with fail
    refine wp_loopU mkL18 (fun n U wr => ∃ (j : Nat) (p : Pw) (T : Nat → Dsk) (V : Nat → Value) (F : Nat → List (List UInt8)), n = 60 - j ∧ j ≤ 60 ∧ j ≤ len ∧ U 15 = .int .i64 (j : Int) ∧ Hid (Ex18 w k m u sz (20 * j) D L p T V F wr ∧ Sy18 T F)) 60 ?atStart (by kernel_rfl) ?round
    case atStart => exact ⟨0, _, _, _, _, rfl, Nat.zero_le _, Nat.zero_le _, rfl, HJ0⟩
    case round =>
      intro MK BB HMB n U W hrel
      obtain ⟨j, p, T, V, F, hnj, hj, hjl, hU15, HJ⟩ := hrel
      have HNJ := Lib.hid hnj
      dsimp only [mkL18, mixU_t, mixU_f, mixU_n, Nat.reduceAdd]
      rw [hU15]
      clear HJ0 hnj hU15
      by_cases hlt : j < len ∧ j < 60
      · obtain ⟨hlt1, hlt2⟩ := hlt
        have d0 : (0 : Int) ≤ (j : Int) := by omega
        have d1 : (j : Int) < (len : Int) := by omega
        have d2' : (j : Int) < 60 := by omega
        rcases W1.out with hz | ⟨b9, off, rfl, hb9, _, hacts⟩
        · omega
        obtain ⟨x, hx, q0, q1, q2, q3, q4, q5, q6, q7⟩ := hacts j hlt1
        have hb8 := HJ.out.1.lw.kept.block b9 hb9
        have c0 := (World.cell?_of_block (a := ⟨b9, off + j * 8, none⟩) hb8).trans q0
        have c1 := (World.cell?_of_block (a := ⟨b9, off + j * 8 + 1, none⟩) hb8).trans q1
        have c2 := (World.cell?_of_block (a := ⟨b9, off + j * 8 + 2, none⟩) hb8).trans q2
        have c3 := (World.cell?_of_block (a := ⟨b9, off + j * 8 + 3, none⟩) hb8).trans q3
        have c4 := (World.cell?_of_block (a := ⟨b9, off + j * 8 + 4, none⟩) hb8).trans q4
        have c5 := (World.cell?_of_block (a := ⟨b9, off + j * 8 + 5, none⟩) hb8).trans q5
        have c6 := (World.cell?_of_block (a := ⟨b9, off + j * 8 + 6, none⟩) hb8).trans q6
        have c7 := (World.cell?_of_block (a := ⟨b9, off + j * 8 + 7, none⟩) hb8).trans q7
        have HX := Lib.hid hx
        clear hacts hb8 hb9 q0 q1 q2 q3 q4 q5 q6 q7 hx
        obtain ⟨kd, ⟨ta, sa⟩, ⟨tc, sc⟩, at9, nx, b8⟩ := x
        simp only at c0 c1 c2 c3 c4 c5 c6 c7 HX
        clear t0 t1 t0n t1n s1' s8' g0 g1 g0' g1' b0 b1 hsz
        go_upto_region 18 with fail
        obtain ⟨y, hy⟩ : ∃ y, W.heap.size = y := ⟨_, rfl⟩
        obtain ⟨W2, hW2⟩ : ∃ W2, W.alloc (.cells #[.int .i64 kd, .int .i64 ta, .int .i64 sa, .int .i64 tc, .int .i64 sc, .int .i64 at9, .int .i64 nx, .int .u8 (b8.toNat : Int)] 38) = W2 := ⟨_, rfl⟩
        rw [hW2, hy]
        have hbx : BoxA18 y ⟨kd, ⟨ta, sa⟩, ⟨tc, sc⟩, at9, nx, b8⟩ W2 := by rw [← hW2, ← hy]; exact heap_alloc_new W _
        have hE := HJ.out.1.old (W' := W2) (by rw [← hW2]; exact keptNew W _)
        have HE2 : Hid (St18 w k m u sz (20 * j) D L y ⟨kd, ⟨ta, sa⟩, ⟨tc, sc⟩, at9, nx, b8⟩ p T V F W2) := Lib.hid ⟨hE, HJ.out.2, hbx⟩
        have ci := exIs hE ⟨ta, sa⟩
        obtain ⟨isb, his⟩ : ∃ i, hasB T sz ⟨ta, sa⟩ = i := ⟨_, rfl⟩
        rw [his] at ci
        simp only at ci
        have CI := Lib.hid ci
        have HIS := Lib.hid his
        clear hy hW2 hbx hE ci his HJ c0 c1 c2 c3 c4 c5 c6 c7
        have c0 := HE2.out.2.2.cel.c0
        have c1 := HE2.out.2.2.cel.c1
        have c2 := HE2.out.2.2.cel.c2
        have c3 := HE2.out.2.2.cel.c3
        have c4 := HE2.out.2.2.cel.c4
        have c5 := HE2.out.2.2.cel.c5
        have c6 := HE2.out.2.2.cel.c6
        have c7 := HE2.out.2.2.cel.c7
        simp only at c0 c1 c2 c3 c4 c5 c6 c7
        go_wp2_with (go_at_call 12; refine CI.out.mono ?_)
        rintro e W3 ⟨rfl, hk3⟩
        have HE3 := Lib.hid (HE2.out.old hk3)
        clear hk3 HE2 CI c0 c1 c2 c3 c4 c5 c6 c7
        have c0 := HE3.out.2.2.cel.c0
        have c1 := HE3.out.2.2.cel.c1
        have c2 := HE3.out.2.2.cel.c2
        have c3 := HE3.out.2.2.cel.c3
        have c4 := HE3.out.2.2.cel.c4
        have c5 := HE3.out.2.2.cel.c5
        have c6 := HE3.out.2.2.cel.c6
        have c7 := HE3.out.2.2.cel.c7
        simp only at c0 c1 c2 c3 c4 c5 c6 c7
        obtain ⟨nn, hnn, hne⟩ := modWalk nx 10 (by decide) (by decide)
        have HNN : Hid (wrap64 ((IntKind.u64.wrap nx).tmod 10) = (nn : Int) ∧ nn < 10) := Lib.hid ⟨hne, hnn⟩
        have bw0 := Lib.hid (bnd0 j)
        have bw1 := Lib.hid (bnd1 j (show nn ≤ 20 by omega))
        have bw2 := Lib.hid (bnd1 j (show sz ≤ 20 by omega))
        clear hnn hne
        go_upto_region 20 with fail
        rw [HNN.out.1]
        obtain ⟨fb, hfb⟩ : ∃ f, fits sz at9 (nn : Int) = f := ⟨_, rfl⟩
        have HFB := Lib.hid hfb
        refine wp_cutU mkA18 (fun U wx => U 19 = .bool fb ∧ W3 = wx) ?rest ?first
        case first =>
          intro MA BA HMA J9 K9 hJ9 hK9
          have hn0 : (0 : Int) ≤ (nn : Int) := by omega
          by_cases h0 : 0 ≤ at9
          · by_cases h1 : at9 ≤ (sz : Int)
            · have ew : wrap64 ((sz : Int) - at9) = (sz : Int) - at9 := by unfold wrap64; omega
              by_cases h2 : (nn : Int) ≤ (sz : Int) - at9
              · obtain rfl : true = fb := by rw [← hfb]; simp only [fits]; simp; omega
                clear hfb
                go_wp2_with fail
                refine Met.intro (hJ9 _ _ (FrU.intro ?rel (by rw [HMA.out.1, HMA.out.2]; exact ⟨by kernel_rfl, by kernel_rfl, by kernel_rfl⟩) rfl))
                case rel => exact ⟨rfl, rfl⟩
              · obtain rfl : false = fb := by rw [← hfb]; simp only [fits]; simp; omega
                clear hfb
                go_wp2_with fail
                refine Met.intro (hJ9 _ _ (FrU.intro ?rel (by rw [HMA.out.1, HMA.out.2]; exact ⟨by kernel_rfl, by kernel_rfl, by kernel_rfl⟩) rfl))
                case rel => exact ⟨rfl, rfl⟩
            · obtain rfl : false = fb := by rw [← hfb]; simp only [fits]; simp; omega
              clear hfb
              go_wp2_with fail
              refine Met.intro (hJ9 _ _ (FrU.intro ?rel (by rw [HMA.out.1, HMA.out.2]; exact ⟨by kernel_rfl, by kernel_rfl, by kernel_rfl⟩) rfl))
              case rel => exact ⟨rfl, rfl⟩
          · obtain rfl : false = fb := by rw [← hfb]; simp only [fits]; simp; omega
            clear hfb
            go_wp2_with fail
            refine Met.intro (hJ9 _ _ (FrU.intro ?rel (by rw [HMA.out.1, HMA.out.2]; exact ⟨by kernel_rfl, by kernel_rfl, by kernel_rfl⟩) rfl))
            case rel => exact ⟨rfl, rfl⟩
        case rest =>
          rintro U2 wx ⟨hU19, hW3⟩
          subst hW3
          dsimp only [mkA18, mixU_t, mixU_f, mixU_n, Nat.reduceAdd]
          rw [hU19]
          clear hU19
          clear hfb
          go_upto_block 2 with fail
          refine wp_cutU mkS18 (fun _ wx => ∃ (p' : Pw) (T' : Nat → Dsk) (F' : Nat → List (List UInt8)) (W' : World), W' = wx ∧ Hid (Ex18 w k m u sz (20 * (j + 1)) D L p' T' V F' W' ∧ Sy18 T' F')) ?rest ?first
          case first =>
            intro MS BS HMS J8 K8 hJ8 hK8
            by_cases k3 : kd = 3
            · as_aux_lemma => -- M:r
                subst k3
                obtain ⟨rv, fv, hcr, hrd⟩ := exRead HE3.out.1 ⟨ta, sa⟩ at9 nx HX.out.1 HX.out.2
                simp only at hcr
                have CR := Lib.hid hcr
                have HRD := Lib.hid hrd
                clear hcr hrd
                go_wp2_with (go_at_call 13; refine CR.out.mono ?_)
                rintro e W4 ⟨rfl, hk4⟩
                have HE4 := Lib.hid (HE3.out.old hk4)
                have HK4 := Lib.hid hk4
                clear hk4 c0 c1 c2 c3 c4 c5 c6 c7 CR
                have c0 := HE4.out.2.2.cel.c0
                have c1 := HE4.out.2.2.cel.c1
                have c2 := HE4.out.2.2.cel.c2
                have c3 := HE4.out.2.2.cel.c3
                have c4 := HE4.out.2.2.cel.c4
                have c5 := HE4.out.2.2.cel.c5
                have c6 := HE4.out.2.2.cel.c6
                have c7 := HE4.out.2.2.cel.c7
                simp only at c0 c1 c2 c3 c4 c5 c6 c7
                obtain ⟨fo, hfo⟩ : ∃ f, fits sz at9 nx = f := ⟨_, rfl⟩
                have HFO := Lib.hid hfo
                go_upto_region 32 with fail
                refine wp_cutU mkR18 (fun U wx => U 22 = .bool fo ∧ W4 = wx) ?rstR ?fstR
                case fstR =>
                  intro MR BR HMR J7 K7 hJ7 hK7
                  by_cases h0 : 0 ≤ at9
                  · by_cases hn : 0 ≤ nx
                    · by_cases h1 : at9 ≤ (sz : Int)
                      · have ew : wrap64 ((sz : Int) - at9) = (sz : Int) - at9 := by unfold wrap64; omega
                        by_cases h2 : nx ≤ (sz : Int) - at9
                        · obtain rfl : true = fo := by rw [← hfo]; simp only [fits]; simp; omega
                          clear hfo
                          go_wp2_with fail
                          refine Met.intro (hJ7 _ _ (FrU.intro ?rel (by rw [HMR.out.1, HMR.out.2]; exact ⟨by kernel_rfl, by kernel_rfl, by kernel_rfl⟩) rfl))
                          case rel => exact ⟨rfl, rfl⟩
                        · obtain rfl : false = fo := by rw [← hfo]; simp only [fits]; simp; omega
                          clear hfo
                          go_wp2_with fail
                          refine Met.intro (hJ7 _ _ (FrU.intro ?rel (by rw [HMR.out.1, HMR.out.2]; exact ⟨by kernel_rfl, by kernel_rfl, by kernel_rfl⟩) rfl))
                          case rel => exact ⟨rfl, rfl⟩
                      · obtain rfl : false = fo := by rw [← hfo]; simp only [fits]; simp; omega
                        clear hfo
                        go_wp2_with fail
                        refine Met.intro (hJ7 _ _ (FrU.intro ?rel (by rw [HMR.out.1, HMR.out.2]; exact ⟨by kernel_rfl, by kernel_rfl, by kernel_rfl⟩) rfl))
                        case rel => exact ⟨rfl, rfl⟩
                    · obtain rfl : false = fo := by rw [← hfo]; simp only [fits]; simp; omega
                      clear hfo
                      go_wp2_with fail
                      refine Met.intro (hJ7 _ _ (FrU.intro ?rel (by rw [HMR.out.1, HMR.out.2]; exact ⟨by kernel_rfl, by kernel_rfl, by kernel_rfl⟩) rfl))
                      case rel => exact ⟨rfl, rfl⟩
                  · obtain rfl : false = fo := by rw [← hfo]; simp only [fits]; simp; omega
                    clear hfo
                    go_wp2_with fail
                    refine Met.intro (hJ7 _ _ (FrU.intro ?rel (by rw [HMR.out.1, HMR.out.2]; exact ⟨by kernel_rfl, by kernel_rfl, by kernel_rfl⟩) rfl))
                    case rel => exact ⟨rfl, rfl⟩
                case rstR =>
                  rintro U3 wx ⟨hU22, hWQ⟩
                  subst hWQ
                  dsimp only [mkR18, mixU_t, mixU_f, mixU_n, Nat.reduceAdd]
                  rw [hU22]
                  clear hU22 hfo
                  clear c0 c1 c2 c3 c4 c5 c6 c7
                  rcases HRD.out with ⟨r1, rfl, rfl⟩ | ⟨r1, r2, rfl, rfl⟩ | ⟨r1, r2, rfl, t, s', an, n3, he, rfl, rfl, ht, hs, han, hrv⟩
                  · as_aux_lemma =>
                      obtain rfl : false = isb := by rw [← HIS.out]; exact r1.symm
                      clear r1
                      have c0 := HE4.out.2.2.cel.c0
                      have c1 := HE4.out.2.2.cel.c1
                      have c2 := HE4.out.2.2.cel.c2
                      have c3 := HE4.out.2.2.cel.c3
                      have c4 := HE4.out.2.2.cel.c4
                      have c5 := HE4.out.2.2.cel.c5
                      have c6 := HE4.out.2.2.cel.c6
                      have c7 := HE4.out.2.2.cel.c7
                      simp only at c0 c1 c2 c3 c4 c5 c6 c7
                      go_wp2_with fail
                      go_quiet (fail)
                      have HE5 := Lib.hid (HE4.out.old ((KeptIn.refl (· < W4.heap.size) W4).drewN nq))
                      clear c0 c1 c2 c3 c4 c5 c6 c7
                      go_wp2_with fail
                      refine Met.intro (hJ8 _ _ (FrU.intro ?rel (by rw [HMS.out.1, HMS.out.2]; exact ⟨by kernel_rfl, by kernel_rfl, by kernel_rfl⟩) rfl))
                      case rel => exact St18.fin HE5.out bw0.out
                  · as_aux_lemma =>
                      obtain rfl : true = isb := by rw [← HIS.out]; exact r1.symm
                      obtain rfl : false = fo := by rw [← HFO.out]; exact r2.symm
                      clear r1 r2
                      have c0 := HE4.out.2.2.cel.c0
                      have c1 := HE4.out.2.2.cel.c1
                      have c2 := HE4.out.2.2.cel.c2
                      have c3 := HE4.out.2.2.cel.c3
                      have c4 := HE4.out.2.2.cel.c4
                      have c5 := HE4.out.2.2.cel.c5
                      have c6 := HE4.out.2.2.cel.c6
                      have c7 := HE4.out.2.2.cel.c7
                      simp only at c0 c1 c2 c3 c4 c5 c6 c7
                      go_wp2_with fail
                      go_quiet (fail)
                      have HE5 := Lib.hid (HE4.out.old ((KeptIn.refl (· < W4.heap.size) W4).drewN nq))
                      clear c0 c1 c2 c3 c4 c5 c6 c7
                      go_wp2_with fail
                      refine Met.intro (hJ8 _ _ (FrU.intro ?rel (by rw [HMS.out.1, HMS.out.2]; exact ⟨by kernel_rfl, by kernel_rfl, by kernel_rfl⟩) rfl))
                      case rel => exact St18.fin HE5.out bw0.out
                  · as_aux_lemma =>
                      obtain rfl : true = isb := by rw [← HIS.out]; exact r1.symm
                      obtain rfl : true = fo := by rw [← HFO.out]; exact r2.symm
                      simp only [Sp.mk.injEq] at he
                      obtain ⟨rfl, rfl⟩ := he
                      obtain ⟨G, hG⟩ : ∃ G, nows (T t).S (T t).M (s' * sz) sz = G := ⟨_, rfl⟩
                      have hn16 : ∀ i, i < sz → (now (T t).S (T t).M (s' * sz + i)).length = 16 := fun i hi => now_length (HE3.out.1.lw.dk.isD t ht) _ (by have := slN_fits hs; omega)
                      have hGl : G.length = 16 * sz := by rw [← hG]; exact nows_length _ _ _ _ hn16
                      have hpart : (⟨G.toArray⟩ : ByteArray).extract (16 * an) (16 * (an + n3)) = ⟨rv.toArray⟩ := by
                        rw [subB G _ _ (by omega) (by rw [hGl]; omega), ← hG, nows_part _ _ _ _ _ _ han hn16, hrv]
                      have cg := fun (q : KW W4) => exGet (HE4.out.1.old q.hk) HE4.out.2.1 t s' ht hs
                      rw [hG] at cg
                      have hsz8 := HSZ.out.2
                      have i1 : IntKind.i64.wrap (16 * (an : Int)) = ((16 * an : Nat) : Int) := by rw [IntKind.wrap_i64]; omega
                      have i2 : IntKind.i64.wrap ((an : Int) + (n3 : Int)) = ((an + n3 : Nat) : Int) := by rw [IntKind.wrap_i64]; omega
                      have i3 : IntKind.i64.wrap (16 * ((an + n3 : Nat) : Int)) = ((16 * (an + n3) : Nat) : Int) := by rw [IntKind.wrap_i64]; omega
                      have j2 : ((16 * (an + n3) : Nat) : Int) ≤ (G.length : Int) := by rw [hGl]; omega
                      have j1 : ((16 * an : Nat) : Int) ≤ ((16 * (an + n3) : Nat) : Int) := by omega
                      obtain ⟨x1, hx1⟩ : ∃ x, 16 * an = x := ⟨_, rfl⟩
                      obtain ⟨x3, hx3⟩ : ∃ x, 16 * (an + n3) = x := ⟨_, rfl⟩
                      obtain ⟨x2, hx2⟩ : ∃ x, an + n3 = x := ⟨_, rfl⟩
                      rw [hx1] at hpart i1 j1
                      rw [hx3] at hpart i3 j1 j2
                      rw [hx2] at i2 i3
                      have j0 : (0 : Int) ≤ (x1 : Int) := by omega
                      have CG := Lib.hid cg
                      clear r1 r2 ht hs hrv hG hGl hn16 cg hx1 hx2 hx3 han hsz8
                      have c1 : ∀ q : KW W4, q.V.cell? ⟨y, 1, none⟩ = some (.int .i64 (t : Int)) := fun q => (HE4.out.2.2.old q.hk).cel.c1
                      have c2 : ∀ q : KW W4, q.V.cell? ⟨y, 2, none⟩ = some (.int .i64 (s' : Int)) := fun q => (HE4.out.2.2.old q.hk).cel.c2
                      have c5 : ∀ q : KW W4, q.V.cell? ⟨y, 5, none⟩ = some (.int .i64 (an : Int)) := fun q => (HE4.out.2.2.old q.hk).cel.c5
                      have c6 : ∀ q : KW W4, q.V.cell? ⟨y, 6, none⟩ = some (.int .i64 (n3 : Int)) := fun q => (HE4.out.2.2.old q.hk).cel.c6
                      go_wp2_with fail
                      refine wp_region_quiet_kept (by kernel_rfl) (by kernel_rfl) ?_
                      repeat (go_big_quiet_step ((go_at_call 14; exact Calls.kept_of (CG.out _))))
                      refine wpQuiet_nil ?_
                      intro V5 hw'
                      obtain ⟨⟨V6, hV⟩, hw''⟩ := hw'
                      subst hw''
                      have HE5 := Lib.hid (HE4.out.old hV)
                      clear hV c1 c2 c5 c6 CG
                      go_wp2_with fail
                      refine Met.intro (hJ8 _ _ (FrU.intro ?rel (by rw [HMS.out.1, HMS.out.2]; exact ⟨by kernel_rfl, by kernel_rfl, by kernel_rfl⟩) rfl))
                      case rel => exact St18.fin HE5.out bw0.out
            · have z3 : (kd == 3) = false := beq_eq_false_iff_ne.2 k3
              by_cases k4 : kd = 4
              · as_aux_lemma => -- M:c
                  subst k4
                  cases isb with
                  | false =>
                    have cc := ckCopyArg HE3.out.1.lw.dk ⟨ta, sa⟩ ⟨tc, sc⟩ (by rw [HIS.out, Bool.false_and])
                    simp only [spV] at cc
                    have CC := Lib.hid cc
                    clear cc
                    go_wp2_with (go_at_call 15; refine CC.out.mono ?_)
                    rintro e W4 ⟨rfl, hk4⟩
                    have HE4 := Lib.hid (HE3.out.old hk4)
                    clear hk4 c0 c1 c2 c3 c4 c5 c6 c7 CC
                    have c0 := HE4.out.2.2.cel.c0
                    have c1 := HE4.out.2.2.cel.c1
                    have c2 := HE4.out.2.2.cel.c2
                    have c3 := HE4.out.2.2.cel.c3
                    have c4 := HE4.out.2.2.cel.c4
                    have c5 := HE4.out.2.2.cel.c5
                    have c6 := HE4.out.2.2.cel.c6
                    have c7 := HE4.out.2.2.cel.c7
                    simp only at c0 c1 c2 c3 c4 c5 c6 c7
                    go_wp2_with fail
                    refine Met.intro (hJ8 _ _ (FrU.intro ?rel (by rw [HMS.out.1, HMS.out.2]; exact ⟨by kernel_rfl, by kernel_rfl, by kernel_rfl⟩) rfl))
                    case rel => exact St18.fin HE4.out bw0.out
                  | true =>
                    obtain ⟨isc, hic⟩ : ∃ i, hasB T sz ⟨tc, sc⟩ = i := ⟨_, rfl⟩
                    have HIC := Lib.hid hic
                    clear hic
                    cases isc with
                    | false =>
                      have cc := ckCopyArg HE3.out.1.lw.dk ⟨ta, sa⟩ ⟨tc, sc⟩ (by rw [HIC.out, Bool.and_false])
                      simp only [spV] at cc
                      have CC := Lib.hid cc
                      clear cc
                      go_wp2_with (go_at_call 15; refine CC.out.mono ?_)
                      rintro e W4 ⟨rfl, hk4⟩
                      have HE4 := Lib.hid (HE3.out.old hk4)
                      clear hk4 c0 c1 c2 c3 c4 c5 c6 c7 CC
                      have c0 := HE4.out.2.2.cel.c0
                      have c1 := HE4.out.2.2.cel.c1
                      have c2 := HE4.out.2.2.cel.c2
                      have c3 := HE4.out.2.2.cel.c3
                      have c4 := HE4.out.2.2.cel.c4
                      have c5 := HE4.out.2.2.cel.c5
                      have c6 := HE4.out.2.2.cel.c6
                      have c7 := HE4.out.2.2.cel.c7
                      simp only at c0 c1 c2 c3 c4 c5 c6 c7
                      have ci := exIs HE4.out.1 ⟨tc, sc⟩
                      rw [HIC.out] at ci
                      simp only at ci
                      have CI := Lib.hid ci
                      clear ci
                      go_wp2_with (go_at_call 12; refine CI.out.mono ?_)
                      rintro e W5 ⟨rfl, hk5⟩
                      have HE5 := Lib.hid (HE4.out.old hk5)
                      clear hk5 c0 c1 c2 c3 c4 c5 c6 c7 CI
                      have c0 := HE5.out.2.2.cel.c0
                      have c1 := HE5.out.2.2.cel.c1
                      have c2 := HE5.out.2.2.cel.c2
                      have c3 := HE5.out.2.2.cel.c3
                      have c4 := HE5.out.2.2.cel.c4
                      have c5 := HE5.out.2.2.cel.c5
                      have c6 := HE5.out.2.2.cel.c6
                      have c7 := HE5.out.2.2.cel.c7
                      simp only at c0 c1 c2 c3 c4 c5 c6 c7
                      go_wp2_with fail
                      refine Met.intro (hJ8 _ _ (FrU.intro ?rel (by rw [HMS.out.1, HMS.out.2]; exact ⟨by kernel_rfl, by kernel_rfl, by kernel_rfl⟩) rfl))
                      case rel => exact St18.fin HE5.out bw0.out
                    | true =>
                      obtain ⟨t, s', he, ht, hs⟩ := hasB_nat HIS.out
                      simp only [Sp.mk.injEq] at he
                      obtain ⟨rfl, rfl⟩ := he
                      obtain ⟨t2, s2', he, ht2, hs2⟩ := hasB_nat HIC.out
                      simp only [Sp.mk.injEq] at he
                      obtain ⟨rfl, rfl⟩ := he
                      have CC := Lib.hid (exCopy HE3.out.1 t s' t2 s2' ht hs ht2 hs2 (by omega))
                      have HTS := Lib.hid (And.intro (And.intro ht hs) (And.intro ht2 hs2))
                      clear ht hs ht2 hs2
                      obtain ⟨l, hl⟩ : ∃ l, nows (T t).S (T t).M (s' * sz) sz = l := ⟨_, rfl⟩
                      rw [hl] at CC
                      have hll : l.length = 16 * sz := by rw [← hl]; exact nows_length _ _ _ _ fun i hi => now_length (HE3.out.1.lw.dk.isD t HTS.out.1.1) _ (by have := slN_fits HTS.out.1.2; omega)
                      have HL9 := Lib.hid (And.intro hl hll)
                      clear hl hll
                      go_wp2_with (go_at_call 15; refine CC.out.mono ?_)
                      rintro e W4 ⟨rfl, hw4⟩
                      have HW4 := Lib.hid hw4
                      have HE4 := Lib.hid (And.intro (HE3.out.1.wr HTS.out.2.1 hw4) (And.intro HE3.out.2.1 (HE3.out.2.2.wr HE3.out.1 HTS.out.2.1 hw4)))
                      have ci := exIs HE4.out.1 ⟨(t2 : Int), (s2' : Int)⟩
                      rw [hasB_up (by rfl), HIC.out] at ci
                      simp only at ci
                      have CI := Lib.hid ci
                      clear hw4 ci c0 c1 c2 c3 c4 c5 c6 c7 CC
                      have c0 := HE4.out.2.2.cel.c0
                      have c1 := HE4.out.2.2.cel.c1
                      have c2 := HE4.out.2.2.cel.c2
                      have c3 := HE4.out.2.2.cel.c3
                      have c4 := HE4.out.2.2.cel.c4
                      have c5 := HE4.out.2.2.cel.c5
                      have c6 := HE4.out.2.2.cel.c6
                      have c7 := HE4.out.2.2.cel.c7
                      simp only at c0 c1 c2 c3 c4 c5 c6 c7
                      go_wp2_with (go_at_call 12; refine CI.out.mono ?_)
                      rintro e W5 ⟨rfl, hk5⟩
                      have HK5 := Lib.hid hk5
                      have HCE : Hid (∀ V9, KeptIn (· < W5.heap.size) W5 V9 → V9.cell? ⟨y, 1, none⟩ = some (.int .i64 (t : Int)) ∧ V9.cell? ⟨y, 2, none⟩ = some (.int .i64 (s' : Int)) ∧ V9.cell? ⟨y, 3, none⟩ = some (.int .i64 (t2 : Int)) ∧ V9.cell? ⟨y, 4, none⟩ = some (.int .i64 (s2' : Int))) := Lib.hid fun V9 hV => by
                        have hb := (HE4.out.2.2.old hk5).old hV
                        exact ⟨hb.cel.c1, hb.cel.c2, hb.cel.c3, hb.cel.c4⟩
                      have CG : Hid (∀ V9, KeptIn (· < W5.heap.size) W5 V9 → Calls Try.prog 14 #[.pointer (some ⟨u, 0, none⟩), .int .i64 (t : Int), .int .i64 (s' : Int)] V9 fun e w' => e = .returned (.string ⟨l.toArray⟩) ∧ KeptIn (· < W5.heap.size) W5 w') := Lib.hid fun V9 hV => by
                        have := exGetF ((HE4.out.1.old hk5).old hV) t s' HTS.out.1.1 (by rw [slN_up (by rfl)]; exact HTS.out.1.2)
                        rw [HE3.out.1.get HE3.out.2.1 HTS.out.1.1 HTS.out.1.2, HL9.out.1] at this
                        exact this.mono fun e w' ⟨h1, h2⟩ => ⟨h1, hV.onM h2⟩
                      have CP : Hid (∀ V9, KeptIn (· < W5.heap.size) W5 V9 → Calls Try.prog 16 #[.pointer (some ⟨u, 0, none⟩), .int .i64 (t2 : Int), .int .i64 (s2' : Int), .int .i64 0, .string ⟨l.toArray⟩] V9 fun e w' => e = .returned (.tuple #[]) ∧ (∃ p9 T9 F9, St18 w k m u sz (20 * j + sz) D L y ⟨4, ⟨(t : Int), (s' : Int)⟩, ⟨(t2 : Int), (s2' : Int)⟩, at9, nx, b8⟩ p9 T9 V F9 w') ∧ (w'.cell? ⟨y, 1, none⟩ = some (.int .i64 (t : Int)) ∧ w'.cell? ⟨y, 2, none⟩ = some (.int .i64 (s' : Int)) ∧ w'.cell? ⟨y, 3, none⟩ = some (.int .i64 (t2 : Int)) ∧ w'.cell? ⟨y, 4, none⟩ = some (.int .i64 (s2' : Int)))) := Lib.hid fun V9 hV => by
                        refine (exPut ((HE4.out.1.old hk5).old hV) t2 s2' 0 sz l HTS.out.2.1 (by rw [slN_up (by rfl)]; exact HTS.out.2.2) (by omega) HL9.out.2).mono ?_
                        rintro e w' ⟨h1, h2, h3⟩
                        have hst := HE3.out.wp HTS.out.2.1 HW4.out (hk5.onM hV) h2 h3
                        exact ⟨h1, ⟨_, _, _, hst⟩, hst.2.2.cel.c1, hst.2.2.cel.c2, hst.2.2.cel.c3, hst.2.2.cel.c4⟩
                      clear hk5 c0 c1 c2 c3 c4 c5 c6 c7 CI
                      obtain ⟨c1, c2, c3, c4⟩ := HCE.out W5 (KeptIn.refl _ _)
                      go_wp2_with fail
                      go_region_held3 (fun V9 => V9.cell? ⟨y, 1, none⟩ = some (.int .i64 (t : Int)) ∧ V9.cell? ⟨y, 2, none⟩ = some (.int .i64 (s' : Int)) ∧ V9.cell? ⟨y, 3, none⟩ = some (.int .i64 (t2 : Int)) ∧ V9.cell? ⟨y, 4, none⟩ = some (.int .i64 (s2' : Int)))
                        (first | exact HCE.out _ (KeptIn.refl _ _).drew | exact HCE.out _ hg6 | exact hcp7)
                        (first
                          | (go_at_call 14; refine (CG.out _ (KeptIn.refl _ _).drew).mono ?_; rintro e V6 ⟨rfl, hg6⟩)
                          | (go_at_call 16; refine (CP.out _ hg6).mono ?_; rintro e V7 ⟨rfl, ⟨p9, T9, F9, hst7⟩, hcp7⟩))
                      all_goals
                        have HE7 := Lib.hid hst7
                        clear hst7 hcp7 hg6 c1 c2 c3 c4
                        go_wp2_with fail
                        refine Met.intro (hJ8 _ _ (FrU.intro ?rel (by rw [HMS.out.1, HMS.out.2]; exact ⟨by kernel_rfl, by kernel_rfl, by kernel_rfl⟩) rfl))
                        case rel => exact St18.fin HE7.out bw2.out
              · have z4 : (kd == 4) = false := beq_eq_false_iff_ne.2 k4
                by_cases k5 : kd = 5
                · as_aux_lemma => -- M:z
                    subst k5
                    cases isb with
                    | false =>
                      have cz := exZeroNo HE3.out.1 ⟨ta, sa⟩ HIS.out
                      simp only at cz
                      have CZ := Lib.hid cz
                      clear cz
                      go_wp2_with (go_at_call 17; refine CZ.out.mono ?_)
                      rintro e W4 ⟨rfl, hk4⟩
                      have HE4 := Lib.hid (HE3.out.old hk4)
                      clear hk4 c0 c1 c2 c3 c4 c5 c6 c7 CZ
                      have c0 := HE4.out.2.2.cel.c0
                      have c1 := HE4.out.2.2.cel.c1
                      have c2 := HE4.out.2.2.cel.c2
                      have c3 := HE4.out.2.2.cel.c3
                      have c4 := HE4.out.2.2.cel.c4
                      have c5 := HE4.out.2.2.cel.c5
                      have c6 := HE4.out.2.2.cel.c6
                      have c7 := HE4.out.2.2.cel.c7
                      simp only at c0 c1 c2 c3 c4 c5 c6 c7
                      go_wp2_with fail
                      refine Met.intro (hJ8 _ _ (FrU.intro ?rel (by rw [HMS.out.1, HMS.out.2]; exact ⟨by kernel_rfl, by kernel_rfl, by kernel_rfl⟩) rfl))
                      case rel => exact St18.fin HE4.out bw0.out
                    | true =>
                      obtain ⟨t, s', he, ht, hs⟩ := hasB_nat HIS.out
                      simp only [Sp.mk.injEq] at he
                      obtain ⟨rfl, rfl⟩ := he
                      have CZ := Lib.hid (exZero HE3.out.1 t s' ht hs (by omega))
                      have HTS := Lib.hid (And.intro ht hs)
                      clear ht hs
                      obtain ⟨l, hl⟩ : ∃ l : List UInt8, List.replicate (16 * sz) 0 = l := ⟨_, rfl⟩
                      rw [hl] at CZ
                      have hll : l.length = 16 * sz := by rw [← hl]; simp
                      have cz := fun V9 => r4Zeros (sz : Int) sz V9 (by have := HSZ.out; omega)
                      rw [hl] at cz
                      have CZZ := Lib.hid cz
                      have HL9 := Lib.hid hll
                      clear hl hll cz
                      go_wp2_with (go_at_call 17; refine CZ.out.mono ?_)
                      rintro e W5 ⟨rfl, hw4⟩
                      have HW4 := Lib.hid hw4
                      have HE4 := Lib.hid (And.intro (HE3.out.1.wr HTS.out.1 hw4) (HE3.out.2.2.wr HE3.out.1 HTS.out.1 hw4))
                      have HCE : Hid (∀ V9, KeptIn (· < W5.heap.size) W5 V9 → V9.cell? ⟨y, 1, none⟩ = some (.int .i64 (t : Int)) ∧ V9.cell? ⟨y, 2, none⟩ = some (.int .i64 (s' : Int))) := Lib.hid fun V9 hV => by
                        have hb := HE4.out.2.old hV
                        exact ⟨hb.cel.c1, hb.cel.c2⟩
                      have CP : Hid (∀ V9, KeptIn (· < W5.heap.size) W5 V9 → Calls Try.prog 16 #[.pointer (some ⟨u, 0, none⟩), .int .i64 (t : Int), .int .i64 (s' : Int), .int .i64 0, .string ⟨l.toArray⟩] V9 fun e w' => e = .returned (.tuple #[]) ∧ (∃ p9 T9 F9, St18 w k m u sz (20 * j + sz) D L y ⟨5, ⟨(t : Int), (s' : Int)⟩, ⟨tc, sc⟩, at9, nx, b8⟩ p9 T9 V F9 w') ∧ (w'.cell? ⟨y, 1, none⟩ = some (.int .i64 (t : Int)) ∧ w'.cell? ⟨y, 2, none⟩ = some (.int .i64 (s' : Int)))) := Lib.hid fun V9 hV => by
                        refine (exPut (HE4.out.1.old hV) t s' 0 sz l HTS.out.1 (by rw [slN_up (by rfl)]; exact HTS.out.2) (by omega) HL9.out).mono ?_
                        rintro e w' ⟨h1, h2, h3⟩
                        have hst := HE3.out.wp HTS.out.1 HW4.out hV h2 h3
                        exact ⟨h1, ⟨_, _, _, hst⟩, hst.2.2.cel.c1, hst.2.2.cel.c2⟩
                      clear hw4 c0 c1 c2 c3 c4 c5 c6 c7 CZ
                      obtain ⟨c1, c2⟩ := HCE.out W5 (KeptIn.refl _ _)
                      go_wp2_with fail
                      go_region_held3 (fun V9 => V9.cell? ⟨y, 1, none⟩ = some (.int .i64 (t : Int)) ∧ V9.cell? ⟨y, 2, none⟩ = some (.int .i64 (s' : Int)))
                        (first | exact HCE.out _ (KeptIn.refl _ _).drew | exact HCE.out _ ((KeptIn.refl _ _).drew.onM hg6) | exact hcp7)
                        (first
                          | (go_at_call 18; refine (CZZ.out _).mono ?_; rintro e V6 ⟨rfl, hg6⟩)
                          | (go_at_call 16; refine (CP.out _ ((KeptIn.refl _ _).drew.onM hg6)).mono ?_; rintro e V7 ⟨rfl, ⟨p9, T9, F9, hst7⟩, hcp7⟩))
                      all_goals
                        have HE7 := Lib.hid hst7
                        clear hst7 hcp7 hg6 c1 c2
                        go_wp2_with fail
                        refine Met.intro (hJ8 _ _ (FrU.intro ?rel (by rw [HMS.out.1, HMS.out.2]; exact ⟨by kernel_rfl, by kernel_rfl, by kernel_rfl⟩) rfl))
                        case rel => exact St18.fin HE7.out bw2.out
                · have z5 : (kd == 5) = false := beq_eq_false_iff_ne.2 k5
                  by_cases k6 : kd = 6
                  · as_aux_lemma => -- M:f
                      subst k6
                      by_cases t0 : ta = 0
                      · subst t0
                        have CF := Lib.hid (exFlush HE3.out.1 HE3.out.2.1 0 (by decide) HE3.out.2.2)
                        go_wp2_with (go_at_call 19; refine CF.out.mono ?_)
                        rintro e W4 ⟨rfl, hst4⟩
                        have HE4 := Lib.hid hst4
                        have CL := Lib.hid (exLc0 hst4.1 (by decide))
                        clear hst4 c0 c1 c2 c3 c4 c5 c6 c7 CF
                        have c0 := HE4.out.2.2.cel.c0
                        have c1 := HE4.out.2.2.cel.c1
                        have c2 := HE4.out.2.2.cel.c2
                        have c3 := HE4.out.2.2.cel.c3
                        have c4 := HE4.out.2.2.cel.c4
                        have c5 := HE4.out.2.2.cel.c5
                        have c6 := HE4.out.2.2.cel.c6
                        have c7 := HE4.out.2.2.cel.c7
                        simp only at c0 c1 c2 c3 c4 c5 c6 c7
                        go_wp2_with (go_at_call 20; refine CL.out.mono ?_)
                        rintro e W5 ⟨rfl, hk5⟩
                        have HE5 : Hid (St18 w k m u sz (20 * j) D L y _ _ _ V F W5) := Lib.hid (St18.old HE4.out hk5)
                        clear hk5 c0 c1 c2 c3 c4 c5 c6 c7 CL
                        go_wp2_with fail
                        refine Met.intro (hJ8 _ _ (FrU.intro ?rel (by rw [HMS.out.1, HMS.out.2]; exact ⟨by kernel_rfl, by kernel_rfl, by kernel_rfl⟩) rfl))
                        case rel => exact St18.fin HE5.out bw0.out
                      · by_cases t1 : ta = 1
                        · subst t1
                          clear t0
                          have CF := Lib.hid (exFlush HE3.out.1 HE3.out.2.1 1 (by decide) HE3.out.2.2)
                          go_wp2_with (go_at_call 19; refine CF.out.mono ?_)
                          rintro e W4 ⟨rfl, hst4⟩
                          have HE4 := Lib.hid hst4
                          have CL := Lib.hid (exLc0 hst4.1 (by decide))
                          clear hst4 c0 c1 c2 c3 c4 c5 c6 c7 CF
                          have c0 := HE4.out.2.2.cel.c0
                          have c1 := HE4.out.2.2.cel.c1
                          have c2 := HE4.out.2.2.cel.c2
                          have c3 := HE4.out.2.2.cel.c3
                          have c4 := HE4.out.2.2.cel.c4
                          have c5 := HE4.out.2.2.cel.c5
                          have c6 := HE4.out.2.2.cel.c6
                          have c7 := HE4.out.2.2.cel.c7
                          simp only at c0 c1 c2 c3 c4 c5 c6 c7
                          go_wp2_with (go_at_call 20; refine CL.out.mono ?_)
                          rintro e W5 ⟨rfl, hk5⟩
                          have HE5 : Hid (St18 w k m u sz (20 * j) D L y _ _ _ V F W5) := Lib.hid (St18.old HE4.out hk5)
                          clear hk5 c0 c1 c2 c3 c4 c5 c6 c7 CL
                          go_wp2_with fail
                          refine Met.intro (hJ8 _ _ (FrU.intro ?rel (by rw [HMS.out.1, HMS.out.2]; exact ⟨by kernel_rfl, by kernel_rfl, by kernel_rfl⟩) rfl))
                          case rel => exact St18.fin HE5.out bw0.out
                        · have y0 : (ta == 0) = false := beq_eq_false_iff_ne.2 t0
                          have y1 : (ta == 1) = false := beq_eq_false_iff_ne.2 t1
                          have hb : tierB ta = false := by unfold tierB; rw [y0, y1]; rfl
                          have CF := Lib.hid (ckFlushArg k ta W3 hb)
                          have CL := Lib.hid (ckLooseNo k ta W3 hb)
                          clear t0 t1 hb
                          go_wp2_with (go_at_call 19; refine CF.out.mono ?_)
                          rintro e _ ⟨rfl, rfl⟩
                          go_wp2_with (go_at_call 20; refine CL.out.mono ?_)
                          rintro e _ ⟨rfl, rfl⟩
                          clear c0 c1 c2 c3 c4 c5 c6 c7
                          go_wp2_with fail
                          refine Met.intro (hJ8 _ _ (FrU.intro ?rel (by rw [HMS.out.1, HMS.out.2]; exact ⟨by kernel_rfl, by kernel_rfl, by kernel_rfl⟩) rfl))
                          case rel => exact St18.fin HE3.out bw0.out
                  · have z6 : (kd == 6) = false := beq_eq_false_iff_ne.2 k6
                    clear k3 k4 k5 k6
                    · as_aux_lemma => -- M:w
                        have cf := lFill b8 nn (16 * nn) rfl (by have := HNN.out.2; omega) W3
                        obtain ⟨l, hl⟩ : ∃ l, List.replicate (16 * nn) b8 = l := ⟨_, rfl⟩
                        have hll : l.length = 16 * nn := by rw [← hl]; simp
                        rw [hl] at cf
                        have CF := Lib.hid cf
                        have HLL := Lib.hid hll
                        clear cf hl hll
                        go_wp2_with (go_at_call 21; refine CF.out.mono ?_)
                        rintro e W4 ⟨rfl, hk4⟩
                        have HE4 := Lib.hid (HE3.out.old hk4)
                        clear hk4 CF HE3 c0 c1 c2 c3 c4 c5 c6 c7
                        have c0 := HE4.out.2.2.cel.c0
                        have c1 := HE4.out.2.2.cel.c1
                        have c2 := HE4.out.2.2.cel.c2
                        have c3 := HE4.out.2.2.cel.c3
                        have c4 := HE4.out.2.2.cel.c4
                        have c5 := HE4.out.2.2.cel.c5
                        have c6 := HE4.out.2.2.cel.c6
                        have c7 := HE4.out.2.2.cel.c7
                        simp only at c0 c1 c2 c3 c4 c5 c6 c7
                        cases isb with
                        | false => -- M:w1
                          have CW := Lib.hid fun V9 (hV : KeptIn (· < W4.heap.size) W4 V9) (l9 : ByteArray) (a9 : Int) => by
                            have := ckWriteArg (HE4.out.1.lw.dk.old hV) ⟨ta, sa⟩ a9 l9 HIS.out
                            simpa only [spV] using this
                          go_wp2_with (go_at_call 22; refine (CW.out W4 (KeptIn.refl _ _) _ _).mono ?_)
                          rintro e W5 ⟨rfl, hk5⟩
                          have HK5 := Lib.hid hk5
                          have HE5 := Lib.hid (HE4.out.old hk5)
                          clear hk5 c0 c1 c2 c3 c4 c5 c6 c7
                          have c0 := HE5.out.2.2.cel.c0
                          have c1 := HE5.out.2.2.cel.c1
                          have c2 := HE5.out.2.2.cel.c2
                          have c3 := HE5.out.2.2.cel.c3
                          have c4 := HE5.out.2.2.cel.c4
                          have c5 := HE5.out.2.2.cel.c5
                          have c6 := HE5.out.2.2.cel.c6
                          have c7 := HE5.out.2.2.cel.c7
                          simp only at c0 c1 c2 c3 c4 c5 c6 c7
                          go_wp2_with (go_at_call 22; refine (CW.out W5 HK5.out _ _).mono ?_)
                          rintro e W6 ⟨rfl, hk6⟩
                          have HE6 := Lib.hid (HE5.out.old hk6)
                          clear hk6 c0 c1 c2 c3 c4 c5 c6 c7 CW
                          go_wp2_with fail
                          refine Met.intro (hJ8 _ _ (FrU.intro ?rel (by rw [HMS.out.1, HMS.out.2]; exact ⟨by kernel_rfl, by kernel_rfl, by kernel_rfl⟩) rfl))
                          case rel => exact St18.fin HE6.out bw0.out
                        | true =>
                          obtain ⟨t, s', he, ht, hs⟩ := hasB_nat HIS.out
                          simp only [Sp.mk.injEq] at he
                          obtain ⟨rfl, rfl⟩ := he
                          have HTS := Lib.hid (And.intro ht hs)
                          clear ht hs
                          cases fb with
                          | false => -- M:w2
                            have cw := ckWriteRange HE4.out.1.lw.dk ⟨(t : Int), (s' : Int)⟩ at9 l nn HX.out.1 (by rw [HLL.out]; have := HNN.out.2; unfold maxLen; omega) HLL.out HIS.out HFB.out
                            simp only [spV] at cw
                            have CW := Lib.hid cw
                            clear cw
                            go_wp2_with (go_at_call 22; refine CW.out.mono ?_)
                            rintro e W5 ⟨rfl, hk5⟩
                            have HE5 := Lib.hid (HE4.out.old hk5)
                            clear hk5 c0 c1 c2 c3 c4 c5 c6 c7 CW
                            have c0 := HE5.out.2.2.cel.c0
                            have c1 := HE5.out.2.2.cel.c1
                            have c2 := HE5.out.2.2.cel.c2
                            have c3 := HE5.out.2.2.cel.c3
                            have c4 := HE5.out.2.2.cel.c4
                            have c5 := HE5.out.2.2.cel.c5
                            have c6 := HE5.out.2.2.cel.c6
                            have c7 := HE5.out.2.2.cel.c7
                            simp only at c0 c1 c2 c3 c4 c5 c6 c7
                            have cx := ckWriteLen HE5.out.1.lw.dk ⟨(t:Int), (s':Int)⟩ 0 [120] (by decide) (by decide)
                            simp only [spV] at cx
                            have CX := Lib.hid cx
                            clear cx
                            go_wp2_with (go_at_call 22; refine CX.out.mono ?_)
                            rintro e W9 ⟨rfl, hk9⟩
                            have HE9 := Lib.hid (HE5.out.old hk9)
                            clear hk9 CX c0 c1 c2 c3 c4 c5 c6 c7
                            go_wp2_with fail
                            refine Met.intro (hJ8 _ _ (FrU.intro ?rel (by rw [HMS.out.1, HMS.out.2]; exact ⟨by kernel_rfl, by kernel_rfl, by kernel_rfl⟩) rfl))
                            case rel => exact St18.fin HE9.out bw0.out
                          | true => -- M:w3
                            obtain ⟨an, rfl, han⟩ : ∃ an : Nat, at9 = (an : Int) ∧ an + nn ≤ sz := by
                              have h := HFB.out
                              simp only [fits, Bool.and_eq_true, decide_eq_true_eq] at h
                              exact ⟨at9.toNat, by omega, by omega⟩
                            have CW := Lib.hid (exWrite HE4.out.1 t s' an nn l HTS.out.1 HTS.out.2 HLL.out han (by omega))
                            have HAN := Lib.hid han
                            clear han
                            go_wp2_with (go_at_call 22; refine CW.out.mono ?_)
                            rintro e W5 ⟨rfl, hw5⟩
                            have HW5 := Lib.hid hw5
                            have hE5 := HE4.out.1.wr HTS.out.1 hw5
                            have hB5 := HE4.out.2.2.wr HE4.out.1 HTS.out.1 hw5
                            have CP := Lib.hid (exPut hE5 t s' an nn l HTS.out.1 (by rw [slN_up (by rfl)]; exact HTS.out.2) HAN.out HLL.out)
                            have c1' := hB5.cel.c1
                            have c2' := hB5.cel.c2
                            have c5' := hB5.cel.c5
                            simp only at c1' c2' c5'
                            clear hw5 hE5 hB5 CW c0 c1 c2 c3 c4 c5 c6 c7
                            go_wp2_with (go_at_call 16; refine CP.out.mono ?_)
                            rintro e W6 ⟨rfl, hE6, hk6⟩
                            have HE6 := Lib.hid (HE4.out.wp HTS.out.1 HW5.out (KeptIn.refl _ _) hE6 hk6)
                            clear hE6 hk6 CP c1' c2' c5' HW5
                            have c0 := HE6.out.2.2.cel.c0
                            have c1 := HE6.out.2.2.cel.c1
                            have c2 := HE6.out.2.2.cel.c2
                            have c3 := HE6.out.2.2.cel.c3
                            have c4 := HE6.out.2.2.cel.c4
                            have c5 := HE6.out.2.2.cel.c5
                            have c6 := HE6.out.2.2.cel.c6
                            have c7 := HE6.out.2.2.cel.c7
                            simp only at c0 c1 c2 c3 c4 c5 c6 c7
                            have hnn9 := HNN.out.2
                            have cx := ckWriteLen HE6.out.1.lw.dk ⟨(t:Int), (s':Int)⟩ 0 [120] (by decide) (by decide)
                            simp only [spV] at cx
                            have CX := Lib.hid cx
                            clear cx
                            go_wp2_with (go_at_call 22; refine CX.out.mono ?_)
                            rintro e W9 ⟨rfl, hk9⟩
                            have HE9 := Lib.hid (HE6.out.old hk9)
                            clear hk9 CX c0 c1 c2 c3 c4 c5 c6 c7
                            go_wp2_with fail
                            refine Met.intro (hJ8 _ _ (FrU.intro ?rel (by rw [HMS.out.1, HMS.out.2]; exact ⟨by kernel_rfl, by kernel_rfl, by kernel_rfl⟩) rfl))
                            case rel => exact St18.fin HE9.out bw1.out
          case rest =>
            as_aux_lemma => -- M:e
              rintro U2 wx ⟨p', T', F', W4, hW4, HJ9⟩
              subst hW4
              dsimp only [mkS18, mixU_t, mixU_f, mixU_n, Nat.reduceAdd]
              have cl := exLen HJ9.out.1 0 (by decide)
              have cr := exRd HJ9.out.1 HJ9.out.2 0 (by decide)
              rw [HDD.out.1] at cl cr
              have CL := Lib.hid cl
              have CR := Lib.hid cr
              clear cl cr
              go_wp2_with (go_at_call 24; refine CL.out.mono ?_)
              rintro e _ ⟨rfl, rfl⟩
              go_wp2_with (go_at_call 23; refine CR.out.mono ?_)
              rintro e W5 ⟨rfl, hk5⟩
              have HJ5 := Lib.hid (And.intro (HJ9.out.1.old hk5) HJ9.out.2)
              clear hk5 CL CR
              have cl := exLen HJ5.out.1 1 (by decide)
              have cr := exRd HJ5.out.1 HJ5.out.2 1 (by decide)
              rw [HDD.out.2] at cl cr
              have CL := Lib.hid cl
              have CR := Lib.hid cr
              clear cl cr
              go_wp2_with (go_at_call 24; refine CL.out.mono ?_)
              rintro e _ ⟨rfl, rfl⟩
              go_wp2_with (go_at_call 23; refine CR.out.mono ?_)
              rintro e W6 ⟨rfl, hk6⟩
              have HJ6 := Lib.hid (And.intro (HJ5.out.1.old hk6) HJ5.out.2)
              clear hk6 CL CR
              have d0 := HJ6.out.1.iu.cv (t := 0) (by decide)
              have d1 := HJ6.out.1.iu.cv (t := 1) (by decide)
              have CT0 := Lib.hid (exText HJ6.out.1 0 (by decide))
              have CT1 := Lib.hid (exText HJ6.out.1 1 (by decide))
              obtain ⟨f0, hf0⟩ : ∃ f, (F' 0).flatten = f := ⟨_, rfl⟩
              obtain ⟨f1, hf1⟩ : ∃ f, (F' 1).flatten = f := ⟨_, rfl⟩
              rw [hf0] at CT0 ⊢
              rw [hf1] at CT1 ⊢
              clear hf0 hf1
              go_wp2_with (go_at_call 25; refine CT0.out.mono ?_)
              rintro e _ ⟨rfl, rfl⟩
              go_wp2_with (go_at_call 25; refine CT1.out.mono ?_)
              rintro e _ ⟨rfl, rfl⟩
              clear CT0 CT1 d0 d1
              have CL0 := Lib.hid (exLc HJ6.out.1 0 (by decide))
              have pl0 := pl_le HJ6.out.1 0 (by decide)
              have pl1 := pl_le HJ6.out.1 1 (by decide)
              obtain ⟨n0, hn0⟩ : ∃ n, plN T' L 0 = n := ⟨_, rfl⟩
              obtain ⟨n1, hn1⟩ : ∃ n, plN T' L 1 = n := ⟨_, rfl⟩
              rw [hn0] at CL0
              have HN := Lib.hid (And.intro hn0 hn1)
              rw [hn0] at pl0
              rw [hn1] at pl1
              have pn0 : (n0 : Int) ≤ 9223372036854775807 := by omega
              have pn1 : (n1 : Int) ≤ 9223372036854775807 := by omega
              clear hn0 hn1 pl0 pl1
              go_wp2_with (go_at_call 20; refine CL0.out.mono ?_)
              rintro e W7 ⟨rfl, hk7⟩
              have HJ7 := Lib.hid (And.intro (HJ6.out.1.old hk7) HJ6.out.2)
              have cs := exLs HJ7.out.1 0 (by decide)
              rw [HDD.out.1, HN.out.1] at cs
              have CS := Lib.hid cs
              clear hk7 CL0 cs
              go_wp2_with (go_at_call 26; refine CS.out.mono ?_; rintro e W8 ⟨a9, cap9, rfl, hk8⟩; have HJ8 := Lib.hid (And.intro (HJ7.out.1.old hk8) HJ7.out.2); clear hk8 CS)
              have CL1 := Lib.hid (exLc HJ8.out.1 1 (by decide))
              rw [HN.out.2] at CL1
              go_wp2_with (go_at_call 20; refine CL1.out.mono ?_)
              rintro e W9 ⟨rfl, hk9⟩
              have HJ9' := Lib.hid (And.intro (HJ8.out.1.old hk9) HJ8.out.2)
              have cs := exLs HJ9'.out.1 1 (by decide)
              rw [HDD.out.2, HN.out.2] at cs
              have CS := Lib.hid cs
              clear hk9 CL1 cs
              go_wp2_with (go_at_call 26; refine CS.out.mono ?_; rintro e WA ⟨a8, cap8, rfl, hkA⟩; have HJA := Lib.hid (And.intro (HJ9'.out.1.old hkA) HJ9'.out.2); clear hkA CS)
              go_wp2_with fail
              refine ⟨60 - (j + 1), by have := HNJ.out; omega, FrU.intro ?rel (by rw [HMB.out.1, HMB.out.2]; exact ⟨by kernel_rfl, by kernel_rfl, by kernel_rfl⟩) rfl⟩
              case rel => exact ⟨j + 1, _, _, _, _, rfl, by omega, by omega, congrArg (Value.int .i64) (by omega), HJA⟩
      · as_aux_lemma => -- M:x
          by_cases hl2 : j < len
          · have d1 : (j : Int) < (len : Int) := by omega
            have d2 : ¬ (j : Int) < 60 := by omega
            clear hlt hl2 t0 t1 t0n t1n s1' s8' g0 g1 g0' g1' b0 b1 hsz
            have CA := Lib.hid (ckSlots HJ.out.1.lw.dk 0)
            have CB := Lib.hid (exSl HJ.out.1 0)
            obtain ⟨x0, hx0⟩ : ∃ x, slI T sz 0 = x := ⟨_, rfl⟩
            rw [hx0] at CA CB
            clear hx0
            go_wp2_with (first
              | (go_at_call 27; refine CA.out.mono ?_; rintro e _ ⟨rfl, rfl⟩)
              | (go_at_call 28; refine CB.out.mono ?_))
            rintro e W2 ⟨rfl, hk2⟩
            have HJ2 := Lib.hid (HJ.out.1.old hk2)
            clear hk2 CA CB
            have CA := Lib.hid (ckSlots HJ2.out.lw.dk 1)
            have CB := Lib.hid (exSl HJ2.out 1)
            obtain ⟨x1, hx1⟩ : ∃ x, slI T sz 1 = x := ⟨_, rfl⟩
            rw [hx1] at CA CB
            clear hx1
            go_wp2_with (first
              | (go_at_call 27; refine CA.out.mono ?_; rintro e _ ⟨rfl, rfl⟩)
              | (go_at_call 28; refine CB.out.mono ?_))
            rintro e W3 ⟨rfl, hk3⟩
            have HJ3 := Lib.hid (HJ2.out.old hk3)
            clear hk3 CA CB
            have CA := Lib.hid (ckSlots HJ3.out.lw.dk 2)
            rw [show slI T sz 2 = 0 from rfl] at CA
            have CB := Lib.hid (ckLooseNo k (-1) W3 rfl)
            go_wp2_with (first
              | (go_at_call 27; refine CA.out.mono ?_; rintro e _ ⟨rfl, rfl⟩)
              | (go_at_call 20; refine CB.out.mono ?_; rintro e _ ⟨rfl, rfl⟩))
            go_ret
            exact ⟨rfl, HJ3.out.lw.kept⟩
          · have d1 : ¬ (j : Int) < (len : Int) := by omega
            clear hlt hl2 t0 t1 t0n t1n s1' s8' g0 g1 g0' g1' b0 b1 hsz
            have CA := Lib.hid (ckSlots HJ.out.1.lw.dk 0)
            have CB := Lib.hid (exSl HJ.out.1 0)
            obtain ⟨x0, hx0⟩ : ∃ x, slI T sz 0 = x := ⟨_, rfl⟩
            rw [hx0] at CA CB
            clear hx0
            go_wp2_with (first
              | (go_at_call 27; refine CA.out.mono ?_; rintro e _ ⟨rfl, rfl⟩)
              | (go_at_call 28; refine CB.out.mono ?_))
            rintro e W2 ⟨rfl, hk2⟩
            have HJ2 := Lib.hid (HJ.out.1.old hk2)
            clear hk2 CA CB
            have CA := Lib.hid (ckSlots HJ2.out.lw.dk 1)
            have CB := Lib.hid (exSl HJ2.out 1)
            obtain ⟨x1, hx1⟩ : ∃ x, slI T sz 1 = x := ⟨_, rfl⟩
            rw [hx1] at CA CB
            clear hx1
            go_wp2_with (first
              | (go_at_call 27; refine CA.out.mono ?_; rintro e _ ⟨rfl, rfl⟩)
              | (go_at_call 28; refine CB.out.mono ?_))
            rintro e W3 ⟨rfl, hk3⟩
            have HJ3 := Lib.hid (HJ2.out.old hk3)
            clear hk3 CA CB
            have CA := Lib.hid (ckSlots HJ3.out.lw.dk 2)
            rw [show slI T sz 2 = 0 from rfl] at CA
            have CB := Lib.hid (ckLooseNo k (-1) W3 rfl)
            go_wp2_with (first
              | (go_at_call 27; refine CA.out.mono ?_; rintro e _ ⟨rfl, rfl⟩)
              | (go_at_call 20; refine CB.out.mono ?_; rintro e _ ⟨rfl, rfl⟩))
            go_ret
            exact ⟨rfl, HJ3.out.lw.kept⟩
  · as_aux_lemma => -- M:b
      have hcf : canC (l0.length / 16) (l1.length / 16) size = false := by simpa using hc
      have cn := ckNewArg hd4.isD size (by rw [n0, n1]; exact hcf)
      rw [e0, e1] at cn
      have C4 := Lib.hid cn
      have HF := Lib.hid hd4.kept
      simp only [canC, Bool.and_eq_false_iff, decide_eq_false_iff_not] at hcf
      clear hc hT hd4 cn e0 e1 n0 n1 C3
      go_wp2_with (go_at_call 9; refine C4.out.mono ?_)
      rintro e _ ⟨rfl, rfl⟩
      by_cases k1 : size < 1
      · clear hcf
        go_wp2
        go_ret
        exact ⟨rfl, HF.out⟩
      · by_cases k8 : 8 < size
        · clear hcf
          go_wp2
          go_ret
          exact ⟨rfl, HF.out⟩
        · by_cases k2 : ((l0.length : Int) / 16) < size
          · clear hcf
            go_wp2
            go_ret
            exact ⟨rfl, HF.out⟩
          · have k3 : ((l1.length : Int) / 16) < size := by omega
            clear hcf
            go_wp2
            go_ret
            exact ⟨rfl, HF.out⟩

end Go.Proofs.Ytmfnapbahkonhaa
