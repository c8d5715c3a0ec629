/- disc's Write. -/
import Derived.Test.YtmfnapbahkonhaaDflush
set_option linter.unusedVariables false
namespace Go.Proofs.Ytmfnapbahkonhaa
open Go.RowKit Go.Maps

/-- n uses, one behind the other, till one goes wrong: how many go well, and what is left of the power. -/
def Pw.go : Nat → Pw → Nat × Pw
  | 0, p => (0, p)
  | n + 1, p => if p.can then ((Pw.go n p.use).1 + 1, (Pw.go n p.use).2) else (0, p.use)

/-- k sectors of l, put from place x on. -/
def putN (M : Int → Option (List UInt8)) (x : Int) (l : List UInt8) : Nat → Int → Option (List UInt8)
  | 0 => M
  | j + 1 => putAt (putN M x l j) (x + j) (nth l j)

theorem putN_eq (M : Int → Option (List UInt8)) (x : Int) (l : List UInt8) (k : Nat) (y : Int) : putN M x l k y = if x ≤ y ∧ y < x + k then some (nth l (y - x).toNat) else M y := by
  induction k with
  | zero => simp [putN]; omega
  | succ k ih =>
    rw [putN, putAt, ih]
    by_cases h : y = x + k
    · rw [if_pos h, if_pos (by omega), show (y - x).toNat = k by omega]
    · rw [if_neg h]
      by_cases h2 : x ≤ y ∧ y < x + k
      · rw [if_pos h2, if_pos (by omega)]
      · rw [if_neg h2, if_neg (by omega)]

theorem dWriteNil (x : Int) (s : ByteArray) (w : World) : Calls Try.prog 40 #[.pointer none, .int .i64 x, .string s] w fun e w' => e = .returned (.int .i64 2) ∧ w = w' := by
  go_enter Try.func40, Try.ntmps40
  go_wp2
  go_ret
  exact ⟨rfl, rfl⟩

theorem dWriteArg (d : Nat) (x : Int) (l : List UInt8) (w : World) (hl : l.length ≤ maxLen) (h : l.length % 16 ≠ 0) :
    Calls Try.prog 40 #[.pointer (some ⟨d, 0, none⟩), .int .i64 x, .string ⟨l.toArray⟩] w fun e w' => e = .returned (.int .i64 1) ∧ w = w' := by
  unfold maxLen at hl
  have h1 : (l.length : Int) ≤ 9223372036854775807 := by omega
  have h2 : ¬ ((l.length : Int) % 16 = 0) := by omega
  clear hl h
  go_enter Try.func40, Try.ntmps40
  go_wp2
  go_ret
  exact ⟨rfl, rfl⟩

theorem dWriteRange (d m s b N : Nat) (S : List (List UInt8)) (M : Int → Option (List UInt8)) (x : Int) (l : List UInt8) (n : Nat) (w : World) (h : IsD d m s b N S M w) (hx : I64 x) (hl : l.length ≤ maxLen) (hn : l.length = 16 * n) (hf : fits S.length x n = false) :
    Calls Try.prog 40 #[.pointer (some ⟨d, 0, none⟩), .int .i64 x, .string ⟨l.toArray⟩] w fun e w' => e = .returned (.int .i64 9) ∧ w = w' := by
  unfold maxLen at hl
  have h1 : (l.length : Int) ≤ 9223372036854775807 := by omega
  have h2 : (l.length : Int) % 16 = 0 := by omega
  have h3 : (l.length : Int) / 16 = (n : Int) := by omega
  have HH : Hid (∀ V, V = w → Calls Try.prog 41 #[.pointer (some ⟨d, 0, none⟩), .int .i64 x, .int .i64 n] V fun e w' => e = .returned (.bool false) ∧ V = w') := Lib.hid fun V hV => by
    subst hV
    have := dHolds d m s b N S M V h x n hx (by constructor <;> omega)
    rwa [hf] at this
  clear hl h hn hf hx
  go_enter Try.func40, Try.ntmps40
  go_wp2_with (go_at_call 41; refine (HH.out _ rfl).mono ?_)
  rintro e w' ⟨rfl, rfl⟩
  go_wp2
  go_ret
  exact ⟨rfl, rfl⟩

/-- Between two rounds of Write's loop. -/
structure Wrote (w : World) (d m s b N : Nat) (S : List (List UInt8)) (M : Int → Option (List UInt8)) (x : Int) (l : List UInt8) (n : Nat) (p : Pw) (j : Nat) (q : Pw) (W : World) : Prop where
  isD : IsD d m s b (N + j) S (putN M x l j) W
  isP : IsP m q W
  run : Pw.go n p = (j + (Pw.go (n - j) q).1, (Pw.go (n - j) q).2)
  kept : KeptIn (fun k => k < w.heap.size ∧ k ≠ m ∧ k ≠ b) w W

set_option maxHeartbeats 1000000 in
set_option maxRecDepth 100000 in
theorem dWrite (d m s b N : Nat) (p : Pw) (S : List (List UInt8)) (M : Int → Option (List UInt8)) (x : Int) (l : List UInt8) (n : Nat) (w : World) (h : IsD d m s b N S M w) (hp : IsP m p w) (hl : l.length ≤ maxLen) (hn : l.length = 16 * n)
    (hf : fits S.length x n = true) (hN : N + n < maxLen) :
    Calls Try.prog 40 #[.pointer (some ⟨d, 0, none⟩), .int .i64 x, .string ⟨l.toArray⟩] w fun e w' => e = .returned (.int .i64 (if (Pw.go n p).1 = n then 0 else 4)) ∧
      IsD d m s b (N + n) S (putN M x l (Pw.go n p).1) w' ∧ IsP m (Pw.go n p).2 w' ∧ KeptIn (fun k => k < w.heap.size ∧ k ≠ m ∧ k ≠ b) w w' := by
  have hL := Lib.hid hl
  unfold maxLen at hl
  have hfit : 0 ≤ x ∧ x + n ≤ S.length := by
    simp only [fits, Bool.and_eq_true, decide_eq_true_eq] at hf
    omega
  have hmax := h.max
  have h1 : (l.length : Int) ≤ 9223372036854775807 := by omega
  have h2 : (l.length : Int) % 16 = 0 := by omega
  have h3 : (l.length : Int) / 16 = (n : Int) := by omega
  have HF := Lib.hid hfit
  have HL : Hid (l.length = 16 * n ∧ l.length ≤ maxLen ∧ S.length ≤ 16384 ∧ N + n < maxLen) := Lib.hid ⟨hn, hL.out, hmax, hN⟩
  have HH : Hid (∀ V, V = w → Calls Try.prog 41 #[.pointer (some ⟨d, 0, none⟩), .int .i64 x, .int .i64 n] V fun e w' => e = .returned (.bool true) ∧ V = w') := Lib.hid fun V hV => by
    subst hV
    have := dHolds d m s b N S M V h x n (by constructor <;> omega) (by constructor <;> omega)
    rwa [hf] at this
  have HJ0 : Hid (Wrote w d m s b N S M x l n p 0 p w) := Lib.hid ⟨h, hp, by simp, KeptIn.refl _ w⟩
  have hne := hp.1.ne h
  have HNE : Hid (m ≠ d ∧ m ≠ s ∧ m ≠ b ∧ d ≠ b ∧ s ≠ b) := Lib.hid ⟨hne.1, hne.2.1, hne.2.2, h.ne_db, h.ne_sb⟩
  clear hl h hp hn hf hfit hmax hne hL hN
  obtain ⟨g, hg⟩ : ∃ g, Pw.go n p = g := ⟨_, rfl⟩
  rw [hg]
  obtain ⟨ov, hov⟩ : ∃ ov : Int, (if g.1 = n then 0 else 4) = ov := ⟨_, rfl⟩
  rw [hov]
  have HG := Lib.hid hg; have HOV := Lib.hid hov
  clear hg hov
  go_enter Try.func40, Try.ntmps40
  go_wp2_with (go_at_call 41; refine (HH.out _ rfl).mono ?_)
  rintro e w' ⟨rfl, rfl⟩
  clear HH
  go_wp2_with fail
  go_loopw [25] (fun c wr => ∃ (j : Nat) (q : Pw) (W : World), W = wr ∧ j ≤ n ∧ c = .int .i64 j ∧ Hid (Wrote w d m s b N S M x l n p j q W)) (fun c _ => n - (RowKit.intOf c).toNat)
  case atStart => exact ⟨0, p, w, rfl, Nat.zero_le _, rfl, HJ0⟩
  case round =>
    obtain ⟨j, q, W, rfl, hj, rfl, HJ⟩ := hrel
    clear HJ0
    by_cases hlt : j < n
    · have b0 : (0 : Int) ≤ (j : Int) := by omega
      have b1 : (j : Int) < (n : Int) := by omega
      have c0 := HJ.out.isD.c0
      by_cases hc : q.can = true
      · have HC := Lib.hid hc; clear hc
        go_wp2_with (go_at_call 52; refine (mUseT m q _ HJ.out.isP HC.out).mono ?_)
        rintro e w1 ⟨rfl, hp1, hk1⟩
        obtain ⟨c, hcn⟩ : ∃ c, nth l j = c := ⟨_, rfl⟩
        have hc16 : c.length = 16 := by rw [← hcn]; exact nth_length l j (by have := HL.out.1; omega)
        have hD1 : IsD d m s b (N + j) S (putN M x l j) w1 := HJ.out.isD.kept hk1 HNE.out.1.symm HNE.out.2.1.symm HNE.out.2.2.1.symm
        have HD1 := Lib.hid hD1; have HP1 := Lib.hid hp1; have HK1 := Lib.hid hk1
        have c2 := hD1.c2
        have hltd := hD1.ltd; have hltb := hD1.ltb
        obtain ⟨y, hy⟩ : ∃ y : Int, x + (j : Int) = y := ⟨_, rfl⟩
        have hyb : 0 ≤ y ∧ y < S.length ∧ S.length ≤ 16384 := by have := HF.out; have := HL.out.2.2.1; omega
        have e1 : IntKind.i64.wrap (x + (j : Int)) = y := by rw [IntKind.wrap_i64]; omega
        have HY : Hid (x + (j : Int) = y ∧ 0 ≤ y ∧ y < S.length) := Lib.hid ⟨hy, hyb.1, hyb.2.1⟩
        have CS : Hid (∀ V, Calls Try.prog 32 #[.string ⟨l.toArray⟩, .int .i64 j] V fun e w' => e = .returned (secV c) ∧ KeptIn (· < V.heap.size) V w') := Lib.hid fun V =>
          (dSecOf l j V (by have := HL.out.1; omega) HL.out.2.1).mono fun e w' h => ⟨by rw [h.1, hcn], h.2.1⟩
        have hwf : (Lit.int .i64 y).wf = true := WalkArith.wf_i64 (by omega)
        have C2 := Lib.hid c2; have HCN := Lib.hid hcn; have HC16 := Lib.hid hc16; have HWF := Lib.hid hwf
        clear hp1 hk1 hD1 c0 hy hyb hcn hc16 hwf
        go_wp2_with fail
        go_region_held3 (fun w' => w'.cell? ⟨d, 2, none⟩ = some (.map (some b)))
          (first | exact C2.out | exact (World.cell?_of_block (a := ⟨d, 2, none⟩) (hk2.block d HNE.out.2.2.2.1)).trans ((World.cell?_of_block (a := ⟨d, 2, none⟩) (hk.block d hltd)).trans C2.out) | exact (World.cell?_of_block (a := ⟨d, 2, none⟩) (hk.block d hltd)).trans C2.out)
          (first | (go_at_call 32; refine (CS.out _).mono ?_; rintro e w' ⟨rfl, hk⟩; obtain ⟨w2, hrun, hm2, hk2, hz2⟩ := ((HD1.out.map.block (w' := w1.drew) rfl).kept hk hltb).store (by have := HL.out.2.2.2; omega) y HWF.out c HC16.out))
        have hkA : KeptIn (· < w1.heap.size) w1 w' := ⟨hk.os, hk.tape, hk.output, hk.size, hk.block⟩
        have hkB : KeptIn (fun k => k < w1.heap.size ∧ k ≠ b) w1 w2 := (hkA.mono fun k h => h.1).trans (hk2.mono fun k h => h.2)
        have HJ2 : Hid (Wrote w d m s b N S M x l n p (j + 1) q.use w2) := by
          have hlts := HD1.out.lts
          refine Lib.hid ⟨⟨(hkB.block d ⟨hltd, HNE.out.2.2.2.1⟩).trans HD1.out.hd, (hkB.block s ⟨hlts, HNE.out.2.2.2.2⟩).trans HD1.out.hs, ?_, HD1.out.len, HD1.out.max, ?_⟩, HP1.out.kept hkB ⟨HP1.out.lt, HNE.out.2.2.1⟩, ?_, ?_⟩
          · rw [putN, HY.out.1, HCN.out]
            exact hm2
          · intro z l' hz
            rw [putN, HY.out.1, putAt] at hz
            split at hz
            · rename_i e
              rw [e]; exact HY.out.2
            · exact HD1.out.dom z l' hz
          · have hr := HJ.out.run
            rw [show n - j = (n - (j + 1)) + 1 by omega, Pw.go, HC.out] at hr
            simp only [if_true] at hr
            rw [hr]
            congr 1
            omega
          · refine (HJ.out.kept.trans (HK1.out.mono fun k hk => hk.2.1)).trans (hkB.mono fun k hk => ⟨?_, hk.2.2⟩)
            exact Nat.lt_of_lt_of_le hk.1 (Nat.le_trans HJ.out.kept.size HK1.out.size)
        have hnn : n ≤ 16384 := by have := HF.out; have := HL.out.2.2.1; omega
        clear hkA hkB hk hk2 hz2 hm2 hrun HJ HD1 HP1 HK1 CS C2 HCN HC16 HWF HC HY c2 e1 hltd hltb
        go_wp2_with fail
        go_roundw
        case rel => exact ⟨j + 1, _, _, rfl, by omega, by go_num, HJ2⟩
        case measure => simp [RowKit.intOf]; omega
      · have hcf : q.can = false := by simpa using hc
        have HC := Lib.hid hcf; clear hc hcf
        go_wp2_with (go_at_call 52; refine (mUseF m q _ HJ.out.isP HC.out).mono ?_)
        rintro e w1 ⟨rfl, hp1, hk1⟩
        have hD1 : IsD d m s b (N + j) S (putN M x l j) w1 := HJ.out.isD.kept hk1 HNE.out.1.symm HNE.out.2.1.symm HNE.out.2.2.1.symm
        have hk := HJ.out.kept.trans (hk1.mono fun k hk => hk.2.1)
        have hr := HJ.out.run
        rw [show n - j = (n - (j + 1)) + 1 by omega, Pw.go, HC.out, HG.out] at hr
        simp only [Bool.false_eq_true, if_false, Nat.add_zero] at hr
        have HR : Hid (ov = 4 ∧ IsD d m s b (N + n) S (putN M x l g.1) w1 ∧ IsP m g.2 w1 ∧ KeptIn (fun k => k < w.heap.size ∧ k ≠ m ∧ k ≠ b) w w1) := Lib.hid (by
          have hov := HOV.out
          rw [hr] at hov ⊢
          rw [if_neg (by show ¬ j = n; omega)] at hov
          exact ⟨hov.symm, ⟨hD1.hd, hD1.hs, hD1.map.mono (by omega), hD1.len, hD1.max, hD1.dom⟩, hp1, hk⟩)
        clear hp1 hk1 hD1 hk hr HC HJ c0
        go_wp2
        go_ret
        exact ⟨by rw [HR.out.1]; rfl, HR.out.2⟩
    · obtain rfl : j = n := by omega
      have hr := HJ.out.run
      rw [Nat.sub_self, Pw.go, HG.out] at hr
      have HR : Hid (ov = 0 ∧ IsD d m s b (N + j) S (putN M x l g.1) W ∧ IsP m g.2 W ∧ KeptIn (fun k => k < w.heap.size ∧ k ≠ m ∧ k ≠ b) w W) := Lib.hid (by
        have hov := HOV.out
        rw [hr] at hov ⊢
        rw [if_pos (by rfl)] at hov
        exact ⟨hov.symm, HJ.out.isD, HJ.out.isP, HJ.out.kept⟩)
      clear hr HJ
      go_wp2
      go_ret
      exact ⟨by rw [HR.out.1]; rfl, HR.out.2⟩

end Go.Proofs.Ytmfnapbahkonhaa
