import Derived.Test.YtkgjmejgkffbdaaGreatDoorShelf
import Derived.Test.YtkgjmejgkffbdaaGreatDoorM3
import Derived.OwnWalk
import Derived.Test.YtkgjmejgkffbdaaGreatDoorM2
import Derived.LoopTactic
/- strings.Builder: Grow, Write of a sector, String; what lies below B stays. -/
set_option linter.unusedVariables false
namespace Go.Proofs.YtkgjmejgkffbdaaGreatDoor
open Go.RowKit

/-- A builder at block b that holds the bytes l; all that it owns lies at or beyond B. -/
def IsBw (B b : Nat) (l : List UInt8) (w : World) : Prop := Lib.IsBuilder 121 5 B b (Lib.byteCells l) w

theorem IsBw.kept {X : Nat → Prop} {B b : Nat} {l : List UInt8} {w w' : World} (h : IsBw B b l w) (hk : KeptIn X w w') (hX : ∀ k, k < w.heap.size → X k) : IsBw B b l w' := by
  rcases h with ⟨hB, v, hb, hown, hne⟩ | ⟨hB, v, hb, hown, hne⟩
  · refine .inl ⟨hB, v, (hk.block b (hX b (Array.getElem?_eq_some_iff.1 hb).1)).trans hb, hown.kept (row := none) ⟨hk.os, hk.tape, hk.output, hk.size, fun k h1 _ => hk.block k (hX k h1)⟩ (by cases v.ownBlock <;> simp), hne⟩
  · refine .inr ⟨hB, v, (hk.block b (hX b (Array.getElem?_eq_some_iff.1 hb).1)).trans hb, hown.kept (row := none) ⟨hk.os, hk.tape, hk.output, hk.size, fun k h1 _ => hk.block k (hX k h1)⟩ (by cases v.ownBlock <;> simp), hne⟩

theorem bGrowNew (n : Nat) (w : World) (hn : n ≤ 281474976710656) (b : Nat) (hb : w.heap[b]? = some (.cells #[.pointer none, .slice none 0 0] 121 (0, 0))) :
    Calls Tryz.prog 58 #[.pointer (some ⟨b, 0, none⟩), .int .i64 n] w fun e w' => e = .returned (.tuple #[]) ∧ IsBw b b [] w' ∧ KeptIn (· < b) w w' := by
  refine (Tryz.Builder_Grow_fresh b b n w (Nat.le_refl _) hb (Nat.le_of_lt (Array.getElem?_eq_some_iff.1 hb).1) hn).mono ?_
  rintro e w' ⟨rfl, h1, h2⟩
  exact ⟨rfl, .inr h1, KeptIn.of_below h2 (fun _ h => h)⟩

theorem bStringW (B b : Nat) (l : List UInt8) (w : World) (h : IsBw B b l w) (hB : B ≤ w.heap.size) :
    Calls Tryz.prog 60 #[.pointer (some ⟨b, 0, none⟩)] w fun e w' => e = .returned (.string ⟨l.toArray⟩) ∧ KeptIn (· < B) w w' := by
  refine (Tryz.Builder_String_any B b l w h hB).mono ?_
  rintro e w' ⟨rfl, h2⟩
  exact ⟨rfl, KeptIn.of_below h2 (fun _ h => h)⟩

theorem bCheckW (B b : Nat) (l : List UInt8) (w : World) (h : IsBw B b l w) :
    Calls Tryz.prog 87 #[.pointer (some ⟨b, 0, none⟩)] w fun e w' => e = .returned (.tuple #[]) ∧ Lib.BuilderAt 121 5 B b (.pointer (some ⟨b, 0, none⟩)) (Lib.byteCells l) w' ∧ KeptIn (· ≠ b) w w' := by
  rcases h with h | h
  · refine (Any.Builder_copyCheck_fresh (ρ := Tryz.lays165_ren) { Tryz.lays165 with } Tryz.Builder_Extra_165.toX72 b w h.cell0 h.shape h.frozen0).mono ?_
    rintro e w' ⟨rfl, rfl⟩
    exact ⟨rfl, h.used _, (KeptIn.refl _ _).setCell (by simp) _⟩
  · refine (Any.Builder_copyCheck_used (ρ := Tryz.lays165_ren) { Tryz.lays165 with } Tryz.Builder_Extra_165.toX72 b w h.cell0).mono ?_
    rintro e w' ⟨rfl, rfl⟩
    exact ⟨rfl, h, .refl _ _⟩

set_option maxHeartbeats 1000000 in
set_option maxRecDepth 100000 in
theorem bWriteSec (B b q : Nat) (l c : List UInt8) (w : World) (h : IsBw B b l w) (hq : SecAt q c w) (hB : B ≤ w.heap.size) (hlen : l.length + 16 ≤ 140737488355328) :
    Calls Tryz.prog 59 #[.pointer (some ⟨b, 0, none⟩), .slice (some ⟨q, 0, none⟩) 16 16] w fun e w' => e = .returned (.tuple #[.int .i64 16, .nilIface]) ∧ IsBw B b (l ++ c) w' ∧ KeptIn (· < B) w w' := by
  have hqb : q ≠ b := fun e => by
    have h1 := hq.2
    rw [e] at h1
    rcases h with ⟨_, v, h2, _⟩ | ⟨_, v, h2, _⟩
    · rw [h1] at h2
      simp only [Option.some.injEq, Obj.cells.injEq] at h2
      exact absurd h2.2.1 (by decide)
    · rw [h1] at h2
      simp only [Option.some.injEq, Obj.cells.injEq] at h2
      exact absurd h2.2.1 (by decide)
  obtain ⟨i0, hi, hz0, hz1, hz2⟩ := info_parts Tryz.Builder_Extra_165.infoByte
  have hBb : B ≤ b := by rcases h with h | h <;> exact h.1
  go_enter Tryz.func59, Tryz.ntmps59
  go_wp2_with (go_at_call 87; refine (bCheckW B b l _ h).mono ?_)
  rintro e w1 ⟨rfl, h1, hk1⟩
  obtain ⟨hB', v, hbk, hown, hne⟩ := h1
  have c1 : w1.cell? ⟨b, 1, none⟩ = some v := by rw [Lib.cell_of_heap hbk]; rfl
  have hq1 : SecAt q c w1 := hq.kept hk1 hqb
  have hnews : ∀ j u, (Lib.byteCells c)[j]? = some u → w1.cell? ((⟨q, 0, none⟩ : Addr).add j) = some u := fun j u hj => by
    rw [Addr.add_mid]
    exact range_sec hq1 j u hj
  have hnl : (Lib.byteCells c).length = 16 * 1 := by rw [Lib.byteCells_length, hq.1]
  have hll : (Lib.byteCells l).length = l.length := Lib.byteCells_length l
  have hsz := hk1.size
  go_wp2_with (at_builtin; refine wpList_append_own _ rfl _ _ 77 rfl B 5 i0 (.int .u8 0) 1 1 Tryz.underlying77 hi hz0 hz1 hz2 rfl (by decide) _ _ _ rfl hown ⟨q, 0, none⟩ 16 16 (Lib.byteCells c) rfl hnl hnews (Lib.byteCells_one _) ?c3 ?c4 ?c5 ?_)
  case c3 => unfold maxLen; omega
  case c4 => omega
  case c5 => omega
  intro v' w2 hown' hgrow _
  have hlt : b < w1.heap.size := (Array.getElem?_eq_some_iff.1 hbk).1
  have hb2 : w2.heap[b]? = some (.cells #[.pointer (some ⟨b, 0, none⟩), v] 121 (0, 0)) := by
    rw [hgrow.block b hlt (fun e => hne e.symm)]
    exact hbk
  have d1 : w2.cell? ⟨b, 1, none⟩ = some v := by rw [Lib.cell_of_heap hb2]; rfl
  have f1 : w2.frozen? ⟨b, 1, none⟩ = false := Lib.frozen_of_heap hb2 1
  obtain ⟨ao, n', cap, rfl⟩ : ∃ ao n' cap, v' = .slice ao n' cap := by
    rcases hown'.2 with ⟨hv, _⟩ | ⟨g, cap, cur, hv, _⟩
    · exact ⟨_, _, _, hv⟩
    · exact ⟨_, _, _, hv⟩
  have hkW : KeptIn (· < B) w w2 := (hk1.mono fun k hk => by omega).trans (KeptIn.of_below ((Below.refl B w1).grown hgrow (by omega) (fun k hk => (hown.lt k hk).1)) (fun _ h => h))
  have HK := Lib.hid hkW
  have HO : Hid (w2.ownsRow B 5 1 (.slice ao n' cap) (Lib.byteCells (l ++ c)).length (Lib.byteCells (l ++ c))) := Lib.hid (by
    rw [Lib.byteCells_append, List.length_append, hnl, hll]
    exact hown')
  clear hown hown' hgrow hk1 hnews hnl hll hq1 h hq hkW hi hz0 hz1 hz2 c1
  go_wp2
  go_ret2
  exact ⟨rfl, .inr (Lib.BuilderAt.put hB' hb2 HO.out (by decide)), HK.out.setCell (by show ¬ b < B; omega) _⟩

end Go.Proofs.YtkgjmejgkffbdaaGreatDoor
/- disc's Read and Image. -/
set_option linter.unusedVariables false
namespace Go.Proofs.YtkgjmejgkffbdaaGreatDoor
open Go.RowKit

/-- n sectors as they are now, from place a on. -/
def nows (S : List (List UInt8)) (M : Int → Option (List UInt8)) (a n : Nat) : List UInt8 := ((List.range n).map fun i => now S M (a + i)).flatten

theorem nows_succ (S : List (List UInt8)) (M : Int → Option (List UInt8)) (a n : Nat) : nows S M a (n + 1) = nows S M a n ++ now S M (a + n) := by
  simp [nows, List.range_succ]
theorem nows_length (S : List (List UInt8)) (M : Int → Option (List UInt8)) (a n : Nat) (h : ∀ i, i < n → (now S M (a + i)).length = 16) : (nows S M a n).length = 16 * n := by
  induction n with
  | zero => rfl
  | succ n ih => rw [nows_succ, List.length_append, ih (fun i hi => h i (by omega)), h n (by omega)]; omega

theorem dReadNil (x n : Int) (w : World) : Calls Tryz.prog 50 #[.pointer none, .int .i64 x, .int .i64 n] w fun e w' => e = .returned (.tuple #[.string ⟨#[]⟩, .int .i64 2]) ∧ w = w' := by
  go_enter Tryz.func50, Tryz.ntmps50
  go_wp2
  go_ret2
  exact ⟨rfl, rfl⟩

theorem dReadRange (d m s b N : Nat) (S : List (List UInt8)) (M : Int → Option (List UInt8)) (x n : Int) (w : World) (h : IsD d m s b N S M w) (hx : I64 x) (hn : I64 n) (hf : fits S.length x n = false) :
    Calls Tryz.prog 50 #[.pointer (some ⟨d, 0, none⟩), .int .i64 x, .int .i64 n] w fun e w' => e = .returned (.tuple #[.string ⟨#[]⟩, .int .i64 9]) ∧ w = w' := by
  have HH := Lib.hid (dHolds d m s b N S M w h x n hx hn)
  rw [hf] at HH
  clear h hx hn hf
  go_enter Tryz.func50, Tryz.ntmps50
  go_wp2_with (go_at_call 68; refine HH.out.mono ?_)
  rintro e w' ⟨rfl, rfl⟩
  go_wp2
  go_ret2
  exact ⟨rfl, rfl⟩

theorem dReadDown (d m s b N : Nat) (p : Pw) (S : List (List UInt8)) (M : Int → Option (List UInt8)) (x n : Int) (w : World) (h : IsD d m s b N S M w) (hp : IsP m p w) (hoff : p.on = false) (hx : I64 x) (hn : I64 n) (hf : fits S.length x n = true) :
    Calls Tryz.prog 50 #[.pointer (some ⟨d, 0, none⟩), .int .i64 x, .int .i64 n] w fun e w' => e = .returned (.tuple #[.string ⟨#[]⟩, .int .i64 4]) ∧ w = w' := by
  have HH := Lib.hid (dHolds d m s b N S M w h x n hx hn)
  rw [hf] at HH
  have c0 := h.c0
  have hm := hp.1
  rw [hoff] at hm
  have HM := Lib.hid hm
  clear h hx hn hf hp hm hoff
  go_enter Tryz.func50, Tryz.ntmps50
  go_wp2_with (go_at_call 68; refine HH.out.mono ?_)
  rintro e w' ⟨rfl, rfl⟩
  go_wp2_with (go_at_call 84; refine (mOn _ _ _ _ _ _ HM.out).mono ?_)
  rintro e w' ⟨rfl, rfl⟩
  go_wp2
  go_ret2
  exact ⟨rfl, rfl⟩

set_option maxHeartbeats 1000000 in
set_option maxRecDepth 100000 in
theorem dRead (d m s b N : Nat) (p : Pw) (S : List (List UInt8)) (M : Int → Option (List UInt8)) (x : Int) (a n : Nat) (w : World) (h : IsD d m s b N S M w) (hp : IsP m p w) (hon : p.on = true) (hxa : x = (a : Int)) (hf : a + n ≤ S.length) :
    Calls Tryz.prog 50 #[.pointer (some ⟨d, 0, none⟩), .int .i64 x, .int .i64 n] w fun e w' => e = .returned (.tuple #[.string ⟨(nows S M a n).toArray⟩, .int .i64 0]) ∧ KeptIn (· < w.heap.size) w w' := by
  have hmax := h.max
  have HH : Hid (∀ V, V = w → Calls Tryz.prog 68 #[.pointer (some ⟨d, 0, none⟩), .int .i64 x, .int .i64 n] V fun e w' => e = .returned (.bool true) ∧ V = w') := Lib.hid fun V hV => by
    subst hV
    have := dHolds d m s b N S M V h x n (by constructor <;> omega) (by constructor <;> omega)
    rwa [show fits S.length x n = true by simp only [fits, Bool.and_eq_true, decide_eq_true_eq]; omega] at this
  have c0 := h.c0
  have hm := hp.1
  rw [hon] at hm
  have HM := Lib.hid hm
  have HD := Lib.hid h
  have HF : Hid (a + n ≤ S.length ∧ S.length ≤ 16384 ∧ x = (a : Int)) := Lib.hid ⟨hf, hmax, hxa⟩
  have hnn : (n : Int) ≤ 16384 := by omega
  have HG : Hid (∀ V b, V.heap[b]? = some (.cells #[.pointer none, .slice none 0 0] 121 (0, 0)) → Calls Tryz.prog 58 #[.pointer (some ⟨b, 0, none⟩), .int .i64 ((n : Int) * 16)] V fun e w' => e = .returned (.tuple #[]) ∧ IsBw b b [] w' ∧ KeptIn (· < b) V w') := Lib.hid fun V b hb => by
    have := bGrowNew (n * 16) V (by omega) b hb
    rwa [show ((n * 16 : Nat) : Int) = (n : Int) * 16 by omega] at this
  clear h hp hon hm hmax hf hxa
  obtain ⟨txt, htxt⟩ : ∃ t, nows S M a n = t := ⟨_, rfl⟩
  rw [htxt]
  have HT := Lib.hid htxt; clear htxt
  go_enter Tryz.func50, Tryz.ntmps50
  go_wp2_with (go_at_call 68; refine (HH.out _ rfl).mono ?_)
  rintro e w' ⟨rfl, rfl⟩
  clear HH
  go_wp2_with (go_at_call 84; refine (mOn _ _ _ _ _ _ HM.out).mono ?_)
  rintro e w' ⟨rfl, rfl⟩
  clear c0
  go_wp2_with (go_at_call 58; refine (HG.out _ _ (heap_alloc_new w _)).mono ?_)
  rintro e w1 ⟨rfl, hw1, hk1⟩
  have hk01 : KeptIn (· < w.heap.size) w w1 := ((KeptIn.refl _ w).alloc (fun _ h => h) _).trans hk1
  have hs1 : w.heap.size ≤ w1.heap.size := hk01.size
  have HJ0 : Hid (IsBw w.heap.size w.heap.size (nows S M a 0) w1 ∧ KeptIn (· < w.heap.size) w w1) := Lib.hid ⟨hw1, hk01⟩
  clear hw1 hk1 hk01 hs1 HG HM
  go_wp2_with fail
  obtain ⟨r, hr⟩ : ∃ r, w.heap.size = r := ⟨_, rfl⟩
  rw [hr] at HJ0 ⊢
  go_loopw [28] (fun c wr => ∃ (j : Nat) (W : World), W = wr ∧ j ≤ n ∧ c = .int .i64 j ∧ Hid (IsBw r r (nows S M a j) W ∧ KeptIn (· < r) w W)) (fun c _ => n - (RowKit.intOf c).toNat)
  case atStart => exact ⟨0, w1, rfl, Nat.zero_le _, rfl, HJ0⟩
  case round =>
    obtain ⟨j, W, rfl, hj, rfl, HJ⟩ := hrel
    clear HJ0
    have hrW : r ≤ W.heap.size := by rw [← hr]; exact HJ.out.2.size
    by_cases hlt : j < n
    · have b0 : (0 : Int) ≤ (j : Int) := by omega
      have b1 : (j : Int) < (n : Int) := by omega
      obtain ⟨t, ht⟩ : ∃ t, a + j = t := ⟨_, rfl⟩
      have e1 : wrap64 (x + (j : Int)) = (t : Int) := by have := HF.out; unfold wrap64; omega
      have hD : IsD d m s b N S M W := HD.out.kept HJ.out.2 (by rw [← hr]; exact HD.out.ltd) (by rw [← hr]; exact HD.out.lts) (by rw [← hr]; exact HD.out.ltb)
      have CA := Lib.hid (dAt d m s b N S M W hD t (by have := HF.out.1; omega))
      have hnl := now_length hD t (by have := HF.out.1; omega)
      obtain ⟨c, hc⟩ : ∃ c, now S M t = c := ⟨_, rfl⟩
      rw [hc] at CA hnl
      have HC : Hid (now S M (a + j) = c ∧ c.length = 16) := Lib.hid ⟨by rw [← hc, ← ht], hnl⟩
      clear hD ht hc hnl
      go_wp2_with (first | (go_at_call 85; refine CA.out.mono ?_; rintro e w2 ⟨rfl, hk2⟩) | (refine wpList_alloc_sec rfl rfl ?_))
      intro w3 s3 k3 z3
      generalize hq : w2.heap.size = q at s3 k3 z3 ⊢
      have S3 := Lib.hid s3; have K2 := Lib.hid hk2; have K3 := Lib.hid k3
      clear s3 hk2 k3 z3 CA e1
      go_wp2_with (refine wpList_store_sec rfl _ _ rfl q c _ rfl rfl HC.out.2 S3.out ?_)
      intro w4 s4 k4 z4
      have hW2 : W.heap.size ≤ q := by rw [← hq]; exact K2.out.size
      have hk04 : KeptIn (· < W.heap.size) W w4 := (K2.out.trans (K3.out.mono fun k hk => by omega)).trans (k4.mono fun k hk => by omega)
      have hiw : IsBw r r (nows S M a j) w4 := HJ.out.1.kept hk04 (fun _ h => h)
      have hll : (nows S M a j).length = 16 * j := nows_length S M a j fun i hi => by
        have hD : IsD d m s b N S M W := HD.out.kept HJ.out.2 (by rw [← hr]; exact HD.out.ltd) (by rw [← hr]; exact HD.out.lts) (by rw [← hr]; exact HD.out.ltb)
        exact now_length hD (a + i) (by have := HF.out.1; omega)
      have CW := Lib.hid (bWriteSec r r q (nows S M a j) c w4 hiw s4 (by have := hk04.size; omega) (by have := HF.out; omega))
      have HK4 : Hid (KeptIn (· < r) w w4) := Lib.hid (HJ.out.2.trans (hk04.mono fun k hk => by omega))
      clear s4 k4 z4 hk04 hiw hll S3 K2 K3
      go_wp2_with (go_at_call 59; refine CW.out.mono ?_)
      rintro e w5 ⟨rfl, hw5, hk5⟩
      have HJ2 : Hid (IsBw r r (nows S M a (j + 1)) w5 ∧ KeptIn (· < r) w w5) := Lib.hid ⟨by rw [nows_succ, HC.out.1]; exact hw5, HK4.out.trans hk5⟩
      clear hw5 hk5 HK4 CW HJ HC
      go_wp2_with fail
      go_roundw
      case rel => exact ⟨j + 1, w5, rfl, by omega, by go_num, HJ2⟩
      case measure => simp [RowKit.intOf]; omega
    · obtain rfl : j = n := by omega
      have CB := Lib.hid (bStringW r r (nows S M a j) W HJ.out.1 hrW)
      rw [HT.out] at CB
      have HK := Lib.hid HJ.out.2
      clear HJ
      go_wp2_with (go_at_call 60; refine CB.out.mono ?_)
      rintro e w5 ⟨rfl, hk5⟩
      go_wp2
      go_ret2
      exact ⟨rfl, by rw [hr]; exact HK.out.trans hk5⟩

theorem dImageNil (w : World) : Calls Tryz.prog 33 #[.pointer none] w fun e w' => e = .returned (.string ⟨#[]⟩) ∧ w = w' := by
  go_enter Tryz.func33, Tryz.ntmps33
  go_wp2
  go_ret
  exact ⟨rfl, rfl⟩

set_option maxHeartbeats 1000000 in
set_option maxRecDepth 100000 in
theorem dImage (d m s b N : Nat) (S : List (List UInt8)) (M : Int → Option (List UInt8)) (w : World) (h : IsD d m s b N S M w) :
    Calls Tryz.prog 33 #[.pointer (some ⟨d, 0, none⟩)] w fun e w' => e = .returned (.string ⟨S.flatten.toArray⟩) ∧ KeptIn (· < w.heap.size) w w' := by
  have hmax := h.max
  have c1 := h.c1
  have HD := Lib.hid h
  obtain ⟨n, hn⟩ : ∃ n, S.length = n := ⟨_, rfl⟩
  rw [hn] at c1 hmax
  have hnn : (n : Int) ≤ 16384 := by omega
  have HG : Hid (∀ V b, V.heap[b]? = some (.cells #[.pointer none, .slice none 0 0] 121 (0, 0)) → Calls Tryz.prog 58 #[.pointer (some ⟨b, 0, none⟩), .int .i64 ((n : Int) * 16)] V fun e w' => e = .returned (.tuple #[]) ∧ IsBw b b [] w' ∧ KeptIn (· < b) V w') := Lib.hid fun V b hb => by
    have := bGrowNew (n * 16) V (by omega) b hb
    rwa [show ((n * 16 : Nat) : Int) = (n : Int) * 16 by omega] at this
  have HF : Hid (S.length = n ∧ n ≤ 16384) := Lib.hid ⟨hn, hmax⟩
  have hltd := h.ltd
  have C1 := Lib.hid c1
  clear h hmax hn
  obtain ⟨txt, htxt⟩ : ∃ t, S.flatten = t := ⟨_, rfl⟩
  rw [htxt]
  have HT := Lib.hid htxt; clear htxt
  go_enter Tryz.func33, Tryz.ntmps33
  go_wp2_with (go_at_call 58; refine (HG.out _ _ (heap_alloc_new w _)).mono ?_)
  rintro e w1 ⟨rfl, hw1, hk1⟩
  have hk01 : KeptIn (· < w.heap.size) w w1 := ((KeptIn.refl _ w).alloc (fun _ h => h) _).trans hk1
  have c1' : w1.cell? ⟨d, 1, none⟩ = some (.slice (some ⟨s, 0, none⟩) n n) := (World.cell?_of_block (a := ⟨d, 1, none⟩) (hk01.block d hltd)).trans C1.out
  have HJ0 : Hid (IsBw w.heap.size w.heap.size (S.take 0).flatten w1 ∧ KeptIn (· < w.heap.size) w w1) := Lib.hid ⟨hw1, hk01⟩
  clear hw1 hk1 hk01 HG c1
  go_wp2_with fail
  clear c1'
  obtain ⟨r, hr⟩ : ∃ r, w.heap.size = r := ⟨_, rfl⟩
  rw [hr] at HJ0 ⊢
  go_loopw [20] (fun c wr => ∃ (j : Nat) (W : World), W = wr ∧ j ≤ n ∧ c = .int .i64 j ∧ Hid (IsBw r r (S.take j).flatten W ∧ KeptIn (· < r) w W)) (fun c _ => n - (RowKit.intOf c).toNat)
  case atStart => exact ⟨0, w1, rfl, Nat.zero_le _, rfl, HJ0⟩
  case round =>
    obtain ⟨j, W, rfl, hj, rfl, HJ⟩ := hrel
    clear HJ0
    have hrW : r ≤ W.heap.size := by rw [← hr]; exact HJ.out.2.size
    by_cases hlt : j < n
    · have b0 : (0 : Int) ≤ (j : Int) := by omega
      have b1 : (j : Int) < (n : Int) := by omega
      have hjS : j < S.length := by rw [HF.out.1]; exact hlt
      have hD : IsD d m s b N S M W := HD.out.kept HJ.out.2 (by rw [← hr]; exact HD.out.ltd) (by rw [← hr]; exact HD.out.lts) (by rw [← hr]; exact HD.out.ltb)
      have hrg := hD.range j hjS
      have hnl : S[j].length = 16 := hD.len _ (List.getElem_mem hjS)
      obtain ⟨c, hc⟩ : ∃ c, S[j] = c := ⟨_, rfl⟩
      rw [hc] at hrg hnl
      have HC : Hid ((S.take (j + 1)).flatten = (S.take j).flatten ++ c ∧ c.length = 16 ∧ (S.take j).flatten.length = 16 * j) := Lib.hid ⟨by
        rw [List.take_succ_eq_append_getElem hjS, hc]; simp, hnl, by
        rw [flat_length _ (fun x hx => hD.len x (List.mem_of_mem_take hx)), List.length_take]; omega⟩
      have RG := Lib.hid hrg
      clear hD hrg hnl hc hjS
      go_wp2_with (first | (refine wpList_load_nth rfl _ rfl s (j * 16) c rfl HC.out.2.1 RG.out ?_) | (refine wpList_alloc_sec rfl rfl ?_))
      intro w3 s3 k3 z3
      generalize hq : W.heap.size = q at s3 k3 z3 ⊢
      have S3 := Lib.hid s3; have K3 := Lib.hid k3
      clear s3 k3 z3
      go_wp2_with (refine wpList_store_sec rfl _ _ rfl q c _ rfl rfl HC.out.2.1 S3.out ?_)
      intro w4 s4 k4 z4
      have hk04 : KeptIn (· < W.heap.size) W w4 := by rw [hq]; exact K3.out.trans (k4.mono fun k hk => Nat.ne_of_lt hk)
      have CW := Lib.hid (bWriteSec r r q (S.take j).flatten c w4 (HJ.out.1.kept hk04 (fun _ h => h)) s4 (by have := hk04.size; omega) (by have := HC.out.2.2; have := HF.out; omega))
      have HK4 : Hid (KeptIn (· < r) w w4) := Lib.hid (HJ.out.2.trans (hk04.mono fun k hk => by omega))
      clear s4 k4 z4 hk04 S3 K3
      go_wp2_with (go_at_call 59; refine CW.out.mono ?_)
      rintro e w5 ⟨rfl, hw5, hk5⟩
      have HJ2 : Hid (IsBw r r (S.take (j + 1)).flatten w5 ∧ KeptIn (· < r) w w5) := Lib.hid ⟨by rw [HC.out.1]; exact hw5, HK4.out.trans hk5⟩
      clear hw5 hk5 HK4 CW HJ HC
      go_wp2_with fail
      go_roundw
      case rel => exact ⟨j + 1, w5, rfl, by omega, by go_num, HJ2⟩
      case measure => simp [RowKit.intOf]; omega
    · obtain rfl : j = n := by omega
      have CB := Lib.hid (bStringW r r (S.take j).flatten W HJ.out.1 hrW)
      rw [← HF.out.1, List.take_length, HT.out] at CB
      have HK := Lib.hid HJ.out.2
      clear HJ
      go_wp2_with (go_at_call 60; refine CB.out.mono ?_)
      rintro e w5 ⟨rfl, hk5⟩
      go_wp2
      go_ret
      exact ⟨rfl, by rw [hr]; exact HK.out.trans hk5⟩

end Go.Proofs.YtkgjmejgkffbdaaGreatDoor
