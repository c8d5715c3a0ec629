/- disc's Read and Image. -/
import Derived.Test.YtmfnapbahkonhaaBw
import Derived.Test.YtmfnapbahkonhaaPw
import Derived.LoopTactic
set_option linter.unusedVariables false
namespace Go.Proofs.Ytmfnapbahkonhaa
open Go.RowKit

/-- n sectors as they are now, from place a on. -/
def nows (S : List (List UInt8)) (M : Int → Option (List UInt8)) (a n : Nat) : List UInt8 := ((List.range n).map fun i => now S M (a + i)).flatten

theorem nows_succ (S : List (List UInt8)) (M : Int → Option (List UInt8)) (a n : Nat) : nows S M a (n + 1) = nows S M a n ++ now S M (a + n) := by
  simp [nows, List.range_succ]
theorem nows_length (S : List (List UInt8)) (M : Int → Option (List UInt8)) (a n : Nat) (h : ∀ i, i < n → (now S M (a + i)).length = 16) : (nows S M a n).length = 16 * n := by
  induction n with
  | zero => rfl
  | succ n ih => rw [nows_succ, List.length_append, ih (fun i hi => h i (by omega)), h n (by omega)]; omega

theorem dReadNil (x n : Int) (w : World) : Calls Try.prog 23 #[.pointer none, .int .i64 x, .int .i64 n] w fun e w' => e = .returned (.tuple #[.string ⟨#[]⟩, .int .i64 2]) ∧ w = w' := by
  go_enter Try.func23, Try.ntmps23
  go_wp2
  go_ret2
  exact ⟨rfl, rfl⟩

theorem dReadRange (d m s b N : Nat) (S : List (List UInt8)) (M : Int → Option (List UInt8)) (x n : Int) (w : World) (h : IsD d m s b N S M w) (hx : I64 x) (hn : I64 n) (hf : fits S.length x n = false) :
    Calls Try.prog 23 #[.pointer (some ⟨d, 0, none⟩), .int .i64 x, .int .i64 n] w fun e w' => e = .returned (.tuple #[.string ⟨#[]⟩, .int .i64 9]) ∧ w = w' := by
  have HH := Lib.hid (dHolds d m s b N S M w h x n hx hn)
  rw [hf] at HH
  clear h hx hn hf
  go_enter Try.func23, Try.ntmps23
  go_wp2_with (go_at_call 41; refine HH.out.mono ?_)
  rintro e w' ⟨rfl, rfl⟩
  go_wp2
  go_ret2
  exact ⟨rfl, rfl⟩

theorem dReadDown (d m s b N : Nat) (p : Pw) (S : List (List UInt8)) (M : Int → Option (List UInt8)) (x n : Int) (w : World) (h : IsD d m s b N S M w) (hp : IsP m p w) (hoff : p.on = false) (hx : I64 x) (hn : I64 n) (hf : fits S.length x n = true) :
    Calls Try.prog 23 #[.pointer (some ⟨d, 0, none⟩), .int .i64 x, .int .i64 n] w fun e w' => e = .returned (.tuple #[.string ⟨#[]⟩, .int .i64 4]) ∧ w = w' := by
  have HH := Lib.hid (dHolds d m s b N S M w h x n hx hn)
  rw [hf] at HH
  have c0 := h.c0
  have hm := hp.1
  rw [hoff] at hm
  have HM := Lib.hid hm
  clear h hx hn hf hp hm hoff
  go_enter Try.func23, Try.ntmps23
  go_wp2_with (go_at_call 41; refine HH.out.mono ?_)
  rintro e w' ⟨rfl, rfl⟩
  go_wp2_with (go_at_call 31; refine (mOn _ _ _ _ _ _ HM.out).mono ?_)
  rintro e w' ⟨rfl, rfl⟩
  go_wp2
  go_ret2
  exact ⟨rfl, rfl⟩

set_option maxHeartbeats 1000000 in
set_option maxRecDepth 100000 in
theorem dRead (d m s b N : Nat) (p : Pw) (S : List (List UInt8)) (M : Int → Option (List UInt8)) (x : Int) (a n : Nat) (w : World) (h : IsD d m s b N S M w) (hp : IsP m p w) (hon : p.on = true) (hxa : x = (a : Int)) (hf : a + n ≤ S.length) :
    Calls Try.prog 23 #[.pointer (some ⟨d, 0, none⟩), .int .i64 x, .int .i64 n] w fun e w' => e = .returned (.tuple #[.string ⟨(nows S M a n).toArray⟩, .int .i64 0]) ∧ KeptIn (· < w.heap.size) w w' := by
  have hmax := h.max
  have HH : Hid (∀ V, V = w → Calls Try.prog 41 #[.pointer (some ⟨d, 0, none⟩), .int .i64 x, .int .i64 n] V fun e w' => e = .returned (.bool true) ∧ V = w') := Lib.hid fun V hV => by
    subst hV
    have := dHolds d m s b N S M V h x n (by constructor <;> omega) (by constructor <;> omega)
    rwa [show fits S.length x n = true by simp only [fits, Bool.and_eq_true, decide_eq_true_eq]; omega] at this
  have c0 := h.c0
  have hm := hp.1
  rw [hon] at hm
  have HM := Lib.hid hm
  have HD := Lib.hid h
  have HF : Hid (a + n ≤ S.length ∧ S.length ≤ 16384 ∧ x = (a : Int)) := Lib.hid ⟨hf, hmax, hxa⟩
  have hnn : (n : Int) ≤ 16384 := by omega
  have HG : Hid (∀ V b, V.heap[b]? = some (.cells #[.pointer none, .slice none 0 0] 90 (0, 0)) → Calls Try.prog 42 #[.pointer (some ⟨b, 0, none⟩), .int .i64 ((n : Int) * 16)] V fun e w' => e = .returned (.tuple #[]) ∧ IsBw b b [] w' ∧ KeptIn (· < b) V w') := Lib.hid fun V b hb => by
    have := bGrowNew (n * 16) V (by omega) b hb
    rwa [show ((n * 16 : Nat) : Int) = (n : Int) * 16 by omega] at this
  clear h hp hon hm hmax hf hxa
  obtain ⟨txt, htxt⟩ : ∃ t, nows S M a n = t := ⟨_, rfl⟩
  rw [htxt]
  have HT := Lib.hid htxt; clear htxt
  go_enter Try.func23, Try.ntmps23
  go_wp2_with (go_at_call 41; refine (HH.out _ rfl).mono ?_)
  rintro e w' ⟨rfl, rfl⟩
  clear HH
  go_wp2_with (go_at_call 31; refine (mOn _ _ _ _ _ _ HM.out).mono ?_)
  rintro e w' ⟨rfl, rfl⟩
  clear c0
  go_wp2_with (go_at_call 42; refine (HG.out _ _ (heap_alloc_new w _)).mono ?_)
  rintro e w1 ⟨rfl, hw1, hk1⟩
  have hk01 : KeptIn (· < w.heap.size) w w1 := ((KeptIn.refl _ w).alloc (fun _ h => h) _).trans hk1
  have hs1 : w.heap.size ≤ w1.heap.size := hk01.size
  have HJ0 : Hid (IsBw w.heap.size w.heap.size (nows S M a 0) w1 ∧ KeptIn (· < w.heap.size) w w1) := Lib.hid ⟨hw1, hk01⟩
  clear hw1 hk1 hk01 hs1 HG HM
  go_wp2_with fail
  obtain ⟨r, hr⟩ : ∃ r, w.heap.size = r := ⟨_, rfl⟩
  rw [hr] at HJ0 ⊢
  go_loopw [28] (fun c wr => ∃ (j : Nat) (W : World), W = wr ∧ j ≤ n ∧ c = .int .i64 j ∧ Hid (IsBw r r (nows S M a j) W ∧ KeptIn (· < r) w W)) (fun c _ => n - (RowKit.intOf c).toNat)
  case atStart => exact ⟨0, w1, rfl, Nat.zero_le _, rfl, HJ0⟩
  case round =>
    obtain ⟨j, W, rfl, hj, rfl, HJ⟩ := hrel
    clear HJ0
    have hrW : r ≤ W.heap.size := by rw [← hr]; exact HJ.out.2.size
    by_cases hlt : j < n
    · have b0 : (0 : Int) ≤ (j : Int) := by omega
      have b1 : (j : Int) < (n : Int) := by omega
      obtain ⟨t, ht⟩ : ∃ t, a + j = t := ⟨_, rfl⟩
      have e1 : wrap64 (x + (j : Int)) = (t : Int) := by have := HF.out; unfold wrap64; omega
      have hD : IsD d m s b N S M W := HD.out.kept HJ.out.2 (by rw [← hr]; exact HD.out.ltd) (by rw [← hr]; exact HD.out.lts) (by rw [← hr]; exact HD.out.ltb)
      have CA := Lib.hid (dAt d m s b N S M W hD t (by have := HF.out.1; omega))
      have hnl := now_length hD t (by have := HF.out.1; omega)
      obtain ⟨c, hc⟩ : ∃ c, now S M t = c := ⟨_, rfl⟩
      rw [hc] at CA hnl
      have HC : Hid (now S M (a + j) = c ∧ c.length = 16) := Lib.hid ⟨by rw [← hc, ← ht], hnl⟩
      clear hD ht hc hnl
      go_wp2_with (first | (go_at_call 43; refine CA.out.mono ?_; rintro e w2 ⟨rfl, hk2⟩) | (refine wpList_alloc_sec rfl rfl ?_))
      intro w3 s3 k3 z3
      generalize hq : w2.heap.size = q at s3 k3 z3 ⊢
      have S3 := Lib.hid s3; have K2 := Lib.hid hk2; have K3 := Lib.hid k3
      clear s3 hk2 k3 z3 CA e1
      go_wp2_with (refine wpList_store_sec rfl _ _ rfl q c _ rfl rfl HC.out.2 S3.out ?_)
      intro w4 s4 k4 z4
      have hW2 : W.heap.size ≤ q := by rw [← hq]; exact K2.out.size
      have hk04 : KeptIn (· < W.heap.size) W w4 := (K2.out.trans (K3.out.mono fun k hk => by omega)).trans (k4.mono fun k hk => by omega)
      have hiw : IsBw r r (nows S M a j) w4 := HJ.out.1.kept hk04 (fun _ h => h)
      have hll : (nows S M a j).length = 16 * j := nows_length S M a j fun i hi => by
        have hD : IsD d m s b N S M W := HD.out.kept HJ.out.2 (by rw [← hr]; exact HD.out.ltd) (by rw [← hr]; exact HD.out.lts) (by rw [← hr]; exact HD.out.ltb)
        exact now_length hD (a + i) (by have := HF.out.1; omega)
      have CW := Lib.hid (bWriteSec r r q (nows S M a j) c w4 hiw s4 (by have := hk04.size; omega) (by have := HF.out; omega))
      have HK4 : Hid (KeptIn (· < r) w w4) := Lib.hid (HJ.out.2.trans (hk04.mono fun k hk => by omega))
      clear s4 k4 z4 hk04 hiw hll S3 K2 K3
      go_wp2_with (go_at_call 44; refine CW.out.mono ?_)
      rintro e w5 ⟨rfl, hw5, hk5⟩
      have HJ2 : Hid (IsBw r r (nows S M a (j + 1)) w5 ∧ KeptIn (· < r) w w5) := Lib.hid ⟨by rw [nows_succ, HC.out.1]; exact hw5, HK4.out.trans hk5⟩
      clear hw5 hk5 HK4 CW HJ HC
      go_wp2_with fail
      go_roundw
      case rel => exact ⟨j + 1, w5, rfl, by omega, by go_num, HJ2⟩
      case measure => simp [RowKit.intOf]; omega
    · obtain rfl : j = n := by omega
      have CB := Lib.hid (bStringW r r (nows S M a j) W HJ.out.1 hrW)
      rw [HT.out] at CB
      have HK := Lib.hid HJ.out.2
      clear HJ
      go_wp2_with (go_at_call 45; refine CB.out.mono ?_)
      rintro e w5 ⟨rfl, hk5⟩
      go_wp2
      go_ret2
      exact ⟨rfl, by rw [hr]; exact HK.out.trans hk5⟩


end Go.Proofs.Ytmfnapbahkonhaa
