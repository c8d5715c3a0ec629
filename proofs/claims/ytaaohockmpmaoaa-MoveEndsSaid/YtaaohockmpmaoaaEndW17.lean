/- MoveEnds of layer 17: the walk: it returns true for every input and writes nothing that was there. -/
import Derived.Test.YtaaohockmpmaoaaAw17
import Derived.Test.YtaaohockmpmaoaaNums
import Derived.Test.YtaaohockmpmaoaaBools
set_option linter.unusedVariables false
namespace Go.Proofs.Ytaaohockmpmaoaa
open Go.RowKit

/-- The phase that so many steps in a row lead to. -/
def phR (r : Nat) : Int := ((min (r + 1) 4 : Nat) : Int)
theorem phR_one (r : Nat) (h : r < 3) : phR r = (r : Int) + 1 := by unfold phR; omega
theorem phR_four (r : Nat) (h : 3 ≤ r) : phR r = 4 := by unfold phR; omega
theorem nxt_phR (r : Nat) : nxt (phR r) = phR (r + 1) := by unfold nxt phR; split <;> omega
theorem nxt_end (r : Nat) : nxt (nxt (nxt (phR r))) = 4 := by rw [nxt_phR, nxt_phR, nxt_phR]; unfold phR; omega
theorem stp_phR (r : Nat) : stp (phR r) ≤ 3 := by unfold stp phR; split <;> omega
theorem bsy_phR (r : Nat) : bsy (phR r) = decide (r < 3) := by
  by_cases h : r < 3
  · rw [decide_eq_true h, (bsy_iff _).2]
    unfold phR; omega
  · rw [decide_eq_false h, Bool.eq_false_iff]
    intro hb
    have := (bsy_iff _).1 hb
    unfold phR at this; omega

def wayM (c p : Int) : Mv := ⟨c, ⟨1, 0⟩, ⟨0, 0⟩, p⟩
/-- What stands between the loop's rounds; within one. -/
def Lp17 (w : World) (y : Nat) (c p : Int) (W : World) : Prop := BoxM y (wayM c p) W ∧ KeptIn (· < w.heap.size) w W ∧ w.heap.size ≤ y
def En17 (w : World) (y z : Nat) (c p q : Int) (W : World) : Prop := Lp17 w y c q W ∧ BoxM z (wayM c p) W ∧ y < z
section
variable {w W W' : World} {y z : Nat} {c p q : Int}
theorem Lp17.old (h : Lp17 w y c p W) (hk : KeptIn (· < W.heap.size) W W') : Lp17 w y c p W' := ⟨h.1.old hk, h.2.1.onM hk, h.2.2⟩
theorem En17.old (h : En17 w y z c p q W) (hk : KeptIn (· < W.heap.size) W W') : En17 w y z c p q W' := ⟨h.1.old hk, h.2.1.old hk, h.2.2⟩
theorem Lp17.en (h : Lp17 w y c p W) : En17 w y W.heap.size c p p (W.alloc (.cells #[.int .i64 c, .int .i64 1, .int .i64 0, .int .i64 0, .int .i64 0, .int .i64 p] 25)) :=
  ⟨h.old (keptNew _ _), BoxM.new W (wayM c p), h.1.lt⟩
theorem En17.put (h : En17 w y z c p q W) (q' : Int) : En17 w y z c p q' ((((((W.setCell ⟨y, 0, none⟩ (.int .i64 c)).setCell ⟨y, 1, none⟩ (.int .i64 1)).setCell ⟨y, 2, none⟩ (.int .i64 0)).setCell ⟨y, 3, none⟩ (.int .i64 0)).setCell ⟨y, 4, none⟩ (.int .i64 0)).setCell ⟨y, 5, none⟩ (.int .i64 q')) := by
  have hy := h.1.2.2
  have h1 := h.1.1.store (wayM c q')
  have k1 : KeptIn (· ≠ y) W (st17 W y (wayM c q')) := (KeptIn.refl _ W).st17 (by simp) (wayM c q')
  have h2 : BoxM z (wayM c p) (st17 W y (wayM c q')) := (k1.block z (Nat.ne_of_gt h.2.2)).trans h.2.1
  have h3 : KeptIn (· < w.heap.size) w (st17 W y (wayM c q')) := h.1.2.1.st17 (show ¬ y < w.heap.size by omega) (wayM c q')
  unfold st17 wayM at h1 h2 h3
  exact ⟨⟨h1, h3, hy⟩, h2, h.2.2⟩
end
theorem lp_start {w V : World} (hk : KeptIn (· < w.heap.size) w V) (c : Int) : Lp17 w V.heap.size c (phR 0) (V.alloc (.cells #[.int .i64 c, .int .i64 1, .int .i64 0, .int .i64 0, .int .i64 0, .int .i64 1] 25)) :=
  ⟨BoxM.new V (wayM c 1), hk.onM (keptNew _ _), hk.size⟩

/-- The phase of one that was handed back. -/
theorem run_phase (c p : Int) (V : World) : (Instr.field 25 (.agg #[.int .i64 c, .int .i64 1, .int .i64 0, .int .i64 0, .int .i64 0, .int .i64 p]) 3).run Try.prog V = .ok (.int .i64 p) V := by kernel_rfl


set_option maxHeartbeats 4000000 in
set_option maxRecDepth 100000 in
theorem moveEndsW (a : Option Addr) (len cap : Nat) (chunk : Int) (w : World) (hb : IsBools w a len) (_ : (Lit.int .i64 chunk).wf = true) :
    Calls Try.prog 4 #[.slice a len cap, .int .i64 chunk] w fun e w' => e = .returned (.bool true) ∧ KeptIn (· < w.heap.size) w w' := by
  have HA := Lib.hid fun V => awake17 V
  unfold BoS at HA
  by_cases hbig : 100 < len
  · have g1 : (100 : Int) < (len : Int) := by omega
    have g2 := hb.len_le
    go_enter Try.func4, Try.ntmps4
    go_wp2_with fail
    refine (HA.out _).mono ?_
    rintro e V1 ⟨rfl, k1⟩
    go_wp2_with fail
    go_ret
    exact ⟨rfl, k1⟩
  have g1 : ¬ (100 : Int) < (len : Int) := by omega
  have g3 : len ≤ 100 := by omega
  clear hbig
  obtain ⟨k, hk, hkw⟩ : ∃ k : Nat, k < 1023 ∧ wrap64 ((IntKind.u64.wrap chunk).tmod 1023) = (k : Int) := modWalk chunk 1023 (by decide) (by decide)
  obtain ⟨c, hc⟩ : ∃ c : Int, (k : Int) + 1 = c := ⟨_, rfl⟩
  have c1 : 1 ≤ c := by omega
  have c2 : c ≤ 1023 := by omega
  have hc1 : wrap64 (1 + (k : Int)) = c := by unfold wrap64; omega
  have hc2 : 1 + (k : Int) = c := by omega
  have HM := Lib.hid fun V => mvNew c ⟨1, 0⟩ ⟨0, 0⟩ V
  have hcan : CanM c ⟨1, 0⟩ ⟨0, 0⟩ := ⟨c1, c2, by decide, by decide, by decide⟩
  unfold NewS newM newE spV at HM
  rw [if_pos hcan, if_pos hcan] at HM
  unfold mvV at HM
  simp only at HM
  have HL := Lib.hid hb
  have HC := Lib.hid (And.intro hkw (And.intro hc1 hc2))
  clear hcan hb hk hc c1 c2 hkw hc1 hc2
  go_enter Try.func4, Try.ntmps4
  go_wp2_with fail
  refine (HA.out _).mono ?_
  rintro e V1 ⟨rfl, k1⟩
  have HK := Lib.hid k1
  clear k1 HA
  go_wp2_with fail
  rw [HC.out.1, HC.out.2.1]
  refine (HM.out _).mono ?_
  rintro e V2 ⟨rfl, k2⟩
  have hl := lp_start (HK.out.onM k2) c
  obtain ⟨W, hW⟩ : ∃ W, V2.alloc (.cells #[.int .i64 c, .int .i64 1, .int .i64 0, .int .i64 0, .int .i64 0, .int .i64 1] 25) = W := ⟨_, rfl⟩
  obtain ⟨y, hy⟩ : ∃ y, V2.heap.size = y := ⟨_, rfl⟩
  rw [hW, hy] at hl
  have HP := Lib.hid hl
  have HW := Lib.hid hW
  have HY := Lib.hid hy
  clear hl hW hy k2 HK HM HC
  go_upto_region 6 with fail
  rw [HW.out]
  simp only [HY.out]
  have HNX := Lib.hid fun V p => mvNext (wayM c p) V
  have HST := Lib.hid fun V p => mvStale (wayM c p) V
  have HSP := Lib.hid fun V p => mvSteps (wayM c p) V
  have HBU := Lib.hid fun V p => mvBusy (wayM c p) V
  unfold MvS Mv.next wayM at HNX
  unfold MvS Mv.stale wayM at HST
  unfold InM wayM at HSP
  unfold BoS wayM at HBU
  unfold mvV at HNX HST HSP HBU
  simp only at HNX HST HSP HBU
  have HE1 := Lib.hid fun V => neqS17 ⟨1, 0⟩ ⟨1, 0⟩ V
  have HE2 := Lib.hid fun V => neqS17 ⟨0, 0⟩ ⟨0, 0⟩ V
  unfold spV at HE1 HE2
  simp only [decide_true, Bool.not_true] at HE1 HE2
  clear HW HY
  go_wp2_with fail
  go_loopw [7, 8] (fun row i wr => ∃ (j r : Nat) (V : World), V = wr ∧ row = .int .i64 (r : Int) ∧ i = .int .i64 (j : Int) ∧ j ≤ len ∧ r ≤ j ∧ Hid (Lp17 w y c (phR r) V)) (fun _ i _ => len - (RowKit.intOf i).toNat)
  case atStart => exact ⟨0, 0, _, rfl, rfl, rfl, Nat.zero_le _, Nat.le_refl _, HP⟩
  case round =>
    obtain ⟨j, r, V, rfl, rfl, rfl, hj, hrj, HJ⟩ := hrel
    clear HP
    have j0 : (0 : Int) ≤ (j : Int) := by omega
    by_cases hlt : j < len
    · have j1 : (j : Int) < (len : Int) := by omega
      have r0 : (0 : Int) ≤ (r : Int) := by omega
      have r1 : (r : Int) ≤ 100 := by omega
      have hv : ∃ b off, a = some ⟨b, off, none⟩ ∧ b < w.heap.size ∧ ∃ x : Bool, w.cell? ⟨b, off + j, none⟩ = some (.bool x) := by
        rcases HL.out with h | ⟨b, off, e, hb, _, hx⟩
        · omega
        · exact ⟨b, off, e, hb, hx j hlt⟩
      obtain ⟨b, off, rfl, hbb, v, hv⟩ := hv
      have HV := Lib.hid (fun (X : World) (h : KeptIn (· < w.heap.size) w X) => (World.cell?_of_block (a := ⟨b, off + j, none⟩) (h.block b hbb)).trans hv)
      obtain ⟨p, hp⟩ : ∃ p, phR r = p := ⟨_, rfl⟩
      have HPP := Lib.hid hp
      rw [hp] at HJ
      have he := HJ.out.en
      obtain ⟨E, hE⟩ : ∃ E, V.alloc (.cells #[.int .i64 c, .int .i64 1, .int .i64 0, .int .i64 0, .int .i64 0, .int .i64 p] 25) = E := ⟨_, rfl⟩
      obtain ⟨z, hz⟩ : ∃ z, V.heap.size = z := ⟨_, rfl⟩
      rw [hE, hz] at he
      have HT := Lib.hid he
      have HE := Lib.hid (And.intro hE hz)
      have c0 := HJ.out.1.at.c0
      have c1 := HJ.out.1.at.c1
      have c2 := HJ.out.1.at.c2
      have c3 := HJ.out.1.at.c3
      have c4 := HJ.out.1.at.c4
      have c5 := HJ.out.1.at.c5
      unfold wayM at c0 c1 c2 c3 c4 c5
      simp only at c0 c1 c2 c3 c4 c5
      clear he hE hz hbb hv hp HJ
      go_upto_region 13 with fail
      rw [HE.out.1]
      simp only [HE.out.2]
      clear HE c0 c1 c2 c3 c4 c5
      have a0 := HV.out _ HT.out.1.2.1
      clear HV
      have c0 := HT.out.1.1.at.c0
      have c1 := HT.out.1.1.at.c1
      have c2 := HT.out.1.1.at.c2
      have c3 := HT.out.1.1.at.c3
      have c4 := HT.out.1.1.at.c4
      have c5 := HT.out.1.1.at.c5
      unfold wayM at c0 c1 c2 c3 c4 c5
      simp only at c0 c1 c2 c3 c4 c5
      have d0 := HT.out.2.1.at.c0
      have d1 := HT.out.2.1.at.c1
      have d2 := HT.out.2.1.at.c2
      have d3 := HT.out.2.1.at.c3
      have d4 := HT.out.2.1.at.c4
      have d5 := HT.out.2.1.at.c5
      unfold wayM at d0 d1 d2 d3 d4 d5
      simp only at d0 d1 d2 d3 d4 d5
      cases v with
      | true =>
        obtain ⟨q, hq⟩ : ∃ q, nxt p = q := ⟨_, rfl⟩
        have HQ := Lib.hid (show phR (r + 1) = q by rw [← nxt_phR, HPP.out, hq])
        have sq : ¬ 3 < stp q := by rw [← HQ.out]; have := stp_phR (r + 1); omega
        by_cases h2 : r < 2
        · have bp : bsy p = true := by rw [← HPP.out, bsy_phR]; exact decide_eq_true (by omega)
          have bq : bsy q = bsy q := rfl
          have HNQ := Lib.hid fun V => HNX.out V p
          have HSQ := Lib.hid fun V => HST.out V p
          have HBP := Lib.hid fun V => HBU.out V p
          have HBQ := Lib.hid fun V => HBU.out V q
          have HPQ := Lib.hid fun V => HSP.out V q
          rw [bp] at HBP
          rw [bq] at HBQ
          rw [hq] at HNQ
          clear bp bq hq HPP HBQ
          have r3 : ¬ (3 : Int) ≤ (r : Int) + 1 := by omega
          go_wp2_with fail
          refine (HNQ.out _).mono ?_
          rintro e U1 ⟨rfl, k9⟩
          have HT9 := Lib.hid (HT.out.old k9)
          clear HT k9
          clear c0 c1 c2 c3 c4 c5 d0 d1 d2 d3 d4 d5
          have HT := HT9
          clear HT9
          have c0 := HT.out.1.1.at.c0
          have c1 := HT.out.1.1.at.c1
          have c2 := HT.out.1.1.at.c2
          have c3 := HT.out.1.1.at.c3
          have c4 := HT.out.1.1.at.c4
          have c5 := HT.out.1.1.at.c5
          unfold wayM at c0 c1 c2 c3 c4 c5
          simp only at c0 c1 c2 c3 c4 c5
          have d0 := HT.out.2.1.at.c0
          have d1 := HT.out.2.1.at.c1
          have d2 := HT.out.2.1.at.c2
          have d3 := HT.out.2.1.at.c3
          have d4 := HT.out.2.1.at.c4
          have d5 := HT.out.2.1.at.c5
          unfold wayM at d0 d1 d2 d3 d4 d5
          simp only at d0 d1 d2 d3 d4 d5
          have f0 := HT.out.1.1.fz 0
          have f1 := HT.out.1.1.fz 1
          have f2 := HT.out.1.1.fz 2
          have f3 := HT.out.1.1.fz 3
          have f4 := HT.out.1.1.fz 4
          have f5 := HT.out.1.1.fz 5
          go_upto_region 19 with fail
          have hs9 := HT.out.put q
          obtain ⟨U5, hU5⟩ : ∃ U5, ((((((U1.setCell ⟨y, 0, none⟩ (.int .i64 c)).setCell ⟨y, 1, none⟩ (.int .i64 1)).setCell ⟨y, 2, none⟩ (.int .i64 0)).setCell ⟨y, 3, none⟩ (.int .i64 0)).setCell ⟨y, 4, none⟩ (.int .i64 0)).setCell ⟨y, 5, none⟩ (.int .i64 q)) = U5 := ⟨_, rfl⟩
          rw [hU5] at hs9
          have HU5 := Lib.hid hU5
          clear HT f0 f1 f2 f3 f4 f5 hU5
          have HT := Lib.hid hs9
          clear hs9
          clear c0 c1 c2 c3 c4 c5 d0 d1 d2 d3 d4 d5
          rw [HU5.out]
          clear HU5
          have c0 := HT.out.1.1.at.c0
          have c1 := HT.out.1.1.at.c1
          have c2 := HT.out.1.1.at.c2
          have c3 := HT.out.1.1.at.c3
          have c4 := HT.out.1.1.at.c4
          have c5 := HT.out.1.1.at.c5
          unfold wayM at c0 c1 c2 c3 c4 c5
          simp only at c0 c1 c2 c3 c4 c5
          have d0 := HT.out.2.1.at.c0
          have d1 := HT.out.2.1.at.c1
          have d2 := HT.out.2.1.at.c2
          have d3 := HT.out.2.1.at.c3
          have d4 := HT.out.2.1.at.c4
          have d5 := HT.out.2.1.at.c5
          unfold wayM at d0 d1 d2 d3 d4 d5
          simp only at d0 d1 d2 d3 d4 d5
          go_wp2_with fail
          refine (HPQ.out _).mono ?_
          rintro e U6 ⟨rfl, k9⟩
          have HT9 := Lib.hid (HT.out.old k9)
          clear HT k9
          clear c0 c1 c2 c3 c4 c5 d0 d1 d2 d3 d4 d5
          have HT := HT9
          clear HT9
          have c0 := HT.out.1.1.at.c0
          have c1 := HT.out.1.1.at.c1
          have c2 := HT.out.1.1.at.c2
          have c3 := HT.out.1.1.at.c3
          have c4 := HT.out.1.1.at.c4
          have c5 := HT.out.1.1.at.c5
          unfold wayM at c0 c1 c2 c3 c4 c5
          simp only at c0 c1 c2 c3 c4 c5
          have d0 := HT.out.2.1.at.c0
          have d1 := HT.out.2.1.at.c1
          have d2 := HT.out.2.1.at.c2
          have d3 := HT.out.2.1.at.c3
          have d4 := HT.out.2.1.at.c4
          have d5 := HT.out.2.1.at.c5
          unfold wayM at d0 d1 d2 d3 d4 d5
          simp only at d0 d1 d2 d3 d4 d5
          go_wp2_with fail
          refine (HBP.out _).mono ?_
          rintro e U7 ⟨rfl, k9⟩
          have HT9 := Lib.hid (HT.out.old k9)
          clear HT k9
          clear c0 c1 c2 c3 c4 c5 d0 d1 d2 d3 d4 d5
          have HT := HT9
          clear HT9
          have c0 := HT.out.1.1.at.c0
          have c1 := HT.out.1.1.at.c1
          have c2 := HT.out.1.1.at.c2
          have c3 := HT.out.1.1.at.c3
          have c4 := HT.out.1.1.at.c4
          have c5 := HT.out.1.1.at.c5
          unfold wayM at c0 c1 c2 c3 c4 c5
          simp only at c0 c1 c2 c3 c4 c5
          have d0 := HT.out.2.1.at.c0
          have d1 := HT.out.2.1.at.c1
          have d2 := HT.out.2.1.at.c2
          have d3 := HT.out.2.1.at.c3
          have d4 := HT.out.2.1.at.c4
          have d5 := HT.out.2.1.at.c5
          unfold wayM at d0 d1 d2 d3 d4 d5
          simp only at d0 d1 d2 d3 d4 d5
          have q1 := HE1.out
          have q2 := HE2.out
          go_wp2_with fail
          go_roundw
          case rel => exact ⟨j + 1, (r + 1), _, rfl, by go_num, by go_num, by omega, by omega, Lib.hid (by rw [HQ.out]; exact HT.out.1)⟩
          case measure => simp only [RowKit.intOf]; omega
        have bq : bsy q = false := by rw [← HQ.out, bsy_phR]; exact decide_eq_false (by omega)
        have r3 : (3 : Int) ≤ (r : Int) + 1 := by omega
        by_cases h3 : r < 3
        · have bp : bsy p = true := by rw [← HPP.out, bsy_phR]; exact decide_eq_true (by omega)
          have HNQ := Lib.hid fun V => HNX.out V p
          have HSQ := Lib.hid fun V => HST.out V p
          have HBP := Lib.hid fun V => HBU.out V p
          have HBQ := Lib.hid fun V => HBU.out V q
          have HPQ := Lib.hid fun V => HSP.out V q
          rw [bp] at HBP
          rw [bq] at HBQ
          rw [hq] at HNQ
          clear bp bq hq HPP
          go_wp2_with fail
          refine (HNQ.out _).mono ?_
          rintro e U1 ⟨rfl, k9⟩
          have HT9 := Lib.hid (HT.out.old k9)
          clear HT k9
          clear c0 c1 c2 c3 c4 c5 d0 d1 d2 d3 d4 d5
          have HT := HT9
          clear HT9
          have c0 := HT.out.1.1.at.c0
          have c1 := HT.out.1.1.at.c1
          have c2 := HT.out.1.1.at.c2
          have c3 := HT.out.1.1.at.c3
          have c4 := HT.out.1.1.at.c4
          have c5 := HT.out.1.1.at.c5
          unfold wayM at c0 c1 c2 c3 c4 c5
          simp only at c0 c1 c2 c3 c4 c5
          have d0 := HT.out.2.1.at.c0
          have d1 := HT.out.2.1.at.c1
          have d2 := HT.out.2.1.at.c2
          have d3 := HT.out.2.1.at.c3
          have d4 := HT.out.2.1.at.c4
          have d5 := HT.out.2.1.at.c5
          unfold wayM at d0 d1 d2 d3 d4 d5
          simp only at d0 d1 d2 d3 d4 d5
          have f0 := HT.out.1.1.fz 0
          have f1 := HT.out.1.1.fz 1
          have f2 := HT.out.1.1.fz 2
          have f3 := HT.out.1.1.fz 3
          have f4 := HT.out.1.1.fz 4
          have f5 := HT.out.1.1.fz 5
          go_upto_region 19 with fail
          have hs9 := HT.out.put q
          obtain ⟨U5, hU5⟩ : ∃ U5, ((((((U1.setCell ⟨y, 0, none⟩ (.int .i64 c)).setCell ⟨y, 1, none⟩ (.int .i64 1)).setCell ⟨y, 2, none⟩ (.int .i64 0)).setCell ⟨y, 3, none⟩ (.int .i64 0)).setCell ⟨y, 4, none⟩ (.int .i64 0)).setCell ⟨y, 5, none⟩ (.int .i64 q)) = U5 := ⟨_, rfl⟩
          rw [hU5] at hs9
          have HU5 := Lib.hid hU5
          clear HT f0 f1 f2 f3 f4 f5 hU5
          have HT := Lib.hid hs9
          clear hs9
          clear c0 c1 c2 c3 c4 c5 d0 d1 d2 d3 d4 d5
          rw [HU5.out]
          clear HU5
          have c0 := HT.out.1.1.at.c0
          have c1 := HT.out.1.1.at.c1
          have c2 := HT.out.1.1.at.c2
          have c3 := HT.out.1.1.at.c3
          have c4 := HT.out.1.1.at.c4
          have c5 := HT.out.1.1.at.c5
          unfold wayM at c0 c1 c2 c3 c4 c5
          simp only at c0 c1 c2 c3 c4 c5
          have d0 := HT.out.2.1.at.c0
          have d1 := HT.out.2.1.at.c1
          have d2 := HT.out.2.1.at.c2
          have d3 := HT.out.2.1.at.c3
          have d4 := HT.out.2.1.at.c4
          have d5 := HT.out.2.1.at.c5
          unfold wayM at d0 d1 d2 d3 d4 d5
          simp only at d0 d1 d2 d3 d4 d5
          go_wp2_with fail
          refine (HPQ.out _).mono ?_
          rintro e U6 ⟨rfl, k9⟩
          have HT9 := Lib.hid (HT.out.old k9)
          clear HT k9
          clear c0 c1 c2 c3 c4 c5 d0 d1 d2 d3 d4 d5
          have HT := HT9
          clear HT9
          have c0 := HT.out.1.1.at.c0
          have c1 := HT.out.1.1.at.c1
          have c2 := HT.out.1.1.at.c2
          have c3 := HT.out.1.1.at.c3
          have c4 := HT.out.1.1.at.c4
          have c5 := HT.out.1.1.at.c5
          unfold wayM at c0 c1 c2 c3 c4 c5
          simp only at c0 c1 c2 c3 c4 c5
          have d0 := HT.out.2.1.at.c0
          have d1 := HT.out.2.1.at.c1
          have d2 := HT.out.2.1.at.c2
          have d3 := HT.out.2.1.at.c3
          have d4 := HT.out.2.1.at.c4
          have d5 := HT.out.2.1.at.c5
          unfold wayM at d0 d1 d2 d3 d4 d5
          simp only at d0 d1 d2 d3 d4 d5
          go_wp2_with fail
          refine (HBQ.out _).mono ?_
          rintro e U7 ⟨rfl, k9⟩
          have HT9 := Lib.hid (HT.out.old k9)
          clear HT k9
          clear c0 c1 c2 c3 c4 c5 d0 d1 d2 d3 d4 d5
          have HT := HT9
          clear HT9
          have c0 := HT.out.1.1.at.c0
          have c1 := HT.out.1.1.at.c1
          have c2 := HT.out.1.1.at.c2
          have c3 := HT.out.1.1.at.c3
          have c4 := HT.out.1.1.at.c4
          have c5 := HT.out.1.1.at.c5
          unfold wayM at c0 c1 c2 c3 c4 c5
          simp only at c0 c1 c2 c3 c4 c5
          have d0 := HT.out.2.1.at.c0
          have d1 := HT.out.2.1.at.c1
          have d2 := HT.out.2.1.at.c2
          have d3 := HT.out.2.1.at.c3
          have d4 := HT.out.2.1.at.c4
          have d5 := HT.out.2.1.at.c5
          unfold wayM at d0 d1 d2 d3 d4 d5
          simp only at d0 d1 d2 d3 d4 d5
          go_wp2_with fail
          refine (HBP.out _).mono ?_
          rintro e U8 ⟨rfl, k9⟩
          have HT9 := Lib.hid (HT.out.old k9)
          clear HT k9
          clear c0 c1 c2 c3 c4 c5 d0 d1 d2 d3 d4 d5
          have HT := HT9
          clear HT9
          have c0 := HT.out.1.1.at.c0
          have c1 := HT.out.1.1.at.c1
          have c2 := HT.out.1.1.at.c2
          have c3 := HT.out.1.1.at.c3
          have c4 := HT.out.1.1.at.c4
          have c5 := HT.out.1.1.at.c5
          unfold wayM at c0 c1 c2 c3 c4 c5
          simp only at c0 c1 c2 c3 c4 c5
          have d0 := HT.out.2.1.at.c0
          have d1 := HT.out.2.1.at.c1
          have d2 := HT.out.2.1.at.c2
          have d3 := HT.out.2.1.at.c3
          have d4 := HT.out.2.1.at.c4
          have d5 := HT.out.2.1.at.c5
          unfold wayM at d0 d1 d2 d3 d4 d5
          simp only at d0 d1 d2 d3 d4 d5
          have q1 := HE1.out
          have q2 := HE2.out
          go_wp2_with fail
          go_roundw
          case rel => exact ⟨j + 1, (r + 1), _, rfl, by go_num, by go_num, by omega, by omega, Lib.hid (by rw [HQ.out]; exact HT.out.1)⟩
          case measure => simp only [RowKit.intOf]; omega
        · have bp : bsy p = false := by rw [← HPP.out, bsy_phR]; exact decide_eq_false h3
          have HNQ := Lib.hid fun V => HNX.out V p
          have HSQ := Lib.hid fun V => HST.out V p
          have HBP := Lib.hid fun V => HBU.out V p
          have HBQ := Lib.hid fun V => HBU.out V q
          have HPQ := Lib.hid fun V => HSP.out V q
          rw [bp] at HBP
          rw [bq] at HBQ
          rw [hq] at HNQ
          clear bp bq hq HPP
          go_wp2_with fail
          refine (HNQ.out _).mono ?_
          rintro e U1 ⟨rfl, k9⟩
          have HT9 := Lib.hid (HT.out.old k9)
          clear HT k9
          clear c0 c1 c2 c3 c4 c5 d0 d1 d2 d3 d4 d5
          have HT := HT9
          clear HT9
          have c0 := HT.out.1.1.at.c0
          have c1 := HT.out.1.1.at.c1
          have c2 := HT.out.1.1.at.c2
          have c3 := HT.out.1.1.at.c3
          have c4 := HT.out.1.1.at.c4
          have c5 := HT.out.1.1.at.c5
          unfold wayM at c0 c1 c2 c3 c4 c5
          simp only at c0 c1 c2 c3 c4 c5
          have d0 := HT.out.2.1.at.c0
          have d1 := HT.out.2.1.at.c1
          have d2 := HT.out.2.1.at.c2
          have d3 := HT.out.2.1.at.c3
          have d4 := HT.out.2.1.at.c4
          have d5 := HT.out.2.1.at.c5
          unfold wayM at d0 d1 d2 d3 d4 d5
          simp only at d0 d1 d2 d3 d4 d5
          have f0 := HT.out.1.1.fz 0
          have f1 := HT.out.1.1.fz 1
          have f2 := HT.out.1.1.fz 2
          have f3 := HT.out.1.1.fz 3
          have f4 := HT.out.1.1.fz 4
          have f5 := HT.out.1.1.fz 5
          go_upto_region 19 with fail
          have hs9 := HT.out.put q
          obtain ⟨U5, hU5⟩ : ∃ U5, ((((((U1.setCell ⟨y, 0, none⟩ (.int .i64 c)).setCell ⟨y, 1, none⟩ (.int .i64 1)).setCell ⟨y, 2, none⟩ (.int .i64 0)).setCell ⟨y, 3, none⟩ (.int .i64 0)).setCell ⟨y, 4, none⟩ (.int .i64 0)).setCell ⟨y, 5, none⟩ (.int .i64 q)) = U5 := ⟨_, rfl⟩
          rw [hU5] at hs9
          have HU5 := Lib.hid hU5
          clear HT f0 f1 f2 f3 f4 f5 hU5
          have HT := Lib.hid hs9
          clear hs9
          clear c0 c1 c2 c3 c4 c5 d0 d1 d2 d3 d4 d5
          rw [HU5.out]
          clear HU5
          have c0 := HT.out.1.1.at.c0
          have c1 := HT.out.1.1.at.c1
          have c2 := HT.out.1.1.at.c2
          have c3 := HT.out.1.1.at.c3
          have c4 := HT.out.1.1.at.c4
          have c5 := HT.out.1.1.at.c5
          unfold wayM at c0 c1 c2 c3 c4 c5
          simp only at c0 c1 c2 c3 c4 c5
          have d0 := HT.out.2.1.at.c0
          have d1 := HT.out.2.1.at.c1
          have d2 := HT.out.2.1.at.c2
          have d3 := HT.out.2.1.at.c3
          have d4 := HT.out.2.1.at.c4
          have d5 := HT.out.2.1.at.c5
          unfold wayM at d0 d1 d2 d3 d4 d5
          simp only at d0 d1 d2 d3 d4 d5
          go_wp2_with fail
          refine (HPQ.out _).mono ?_
          rintro e U6 ⟨rfl, k9⟩
          have HT9 := Lib.hid (HT.out.old k9)
          clear HT k9
          clear c0 c1 c2 c3 c4 c5 d0 d1 d2 d3 d4 d5
          have HT := HT9
          clear HT9
          have c0 := HT.out.1.1.at.c0
          have c1 := HT.out.1.1.at.c1
          have c2 := HT.out.1.1.at.c2
          have c3 := HT.out.1.1.at.c3
          have c4 := HT.out.1.1.at.c4
          have c5 := HT.out.1.1.at.c5
          unfold wayM at c0 c1 c2 c3 c4 c5
          simp only at c0 c1 c2 c3 c4 c5
          have d0 := HT.out.2.1.at.c0
          have d1 := HT.out.2.1.at.c1
          have d2 := HT.out.2.1.at.c2
          have d3 := HT.out.2.1.at.c3
          have d4 := HT.out.2.1.at.c4
          have d5 := HT.out.2.1.at.c5
          unfold wayM at d0 d1 d2 d3 d4 d5
          simp only at d0 d1 d2 d3 d4 d5
          go_wp2_with fail
          refine (HBQ.out _).mono ?_
          rintro e U7 ⟨rfl, k9⟩
          have HT9 := Lib.hid (HT.out.old k9)
          clear HT k9
          clear c0 c1 c2 c3 c4 c5 d0 d1 d2 d3 d4 d5
          have HT := HT9
          clear HT9
          have c0 := HT.out.1.1.at.c0
          have c1 := HT.out.1.1.at.c1
          have c2 := HT.out.1.1.at.c2
          have c3 := HT.out.1.1.at.c3
          have c4 := HT.out.1.1.at.c4
          have c5 := HT.out.1.1.at.c5
          unfold wayM at c0 c1 c2 c3 c4 c5
          simp only at c0 c1 c2 c3 c4 c5
          have d0 := HT.out.2.1.at.c0
          have d1 := HT.out.2.1.at.c1
          have d2 := HT.out.2.1.at.c2
          have d3 := HT.out.2.1.at.c3
          have d4 := HT.out.2.1.at.c4
          have d5 := HT.out.2.1.at.c5
          unfold wayM at d0 d1 d2 d3 d4 d5
          simp only at d0 d1 d2 d3 d4 d5
          go_wp2_with fail
          refine (HBP.out _).mono ?_
          rintro e U8 ⟨rfl, k9⟩
          have HT9 := Lib.hid (HT.out.old k9)
          clear HT k9
          clear c0 c1 c2 c3 c4 c5 d0 d1 d2 d3 d4 d5
          have HT := HT9
          clear HT9
          have c0 := HT.out.1.1.at.c0
          have c1 := HT.out.1.1.at.c1
          have c2 := HT.out.1.1.at.c2
          have c3 := HT.out.1.1.at.c3
          have c4 := HT.out.1.1.at.c4
          have c5 := HT.out.1.1.at.c5
          unfold wayM at c0 c1 c2 c3 c4 c5
          simp only at c0 c1 c2 c3 c4 c5
          have d0 := HT.out.2.1.at.c0
          have d1 := HT.out.2.1.at.c1
          have d2 := HT.out.2.1.at.c2
          have d3 := HT.out.2.1.at.c3
          have d4 := HT.out.2.1.at.c4
          have d5 := HT.out.2.1.at.c5
          unfold wayM at d0 d1 d2 d3 d4 d5
          simp only at d0 d1 d2 d3 d4 d5
          go_wp2_with fail
          refine (HBQ.out _).mono ?_
          rintro e U9 ⟨rfl, k9⟩
          have HT9 := Lib.hid (HT.out.old k9)
          clear HT k9
          clear c0 c1 c2 c3 c4 c5 d0 d1 d2 d3 d4 d5
          have HT := HT9
          clear HT9
          have c0 := HT.out.1.1.at.c0
          have c1 := HT.out.1.1.at.c1
          have c2 := HT.out.1.1.at.c2
          have c3 := HT.out.1.1.at.c3
          have c4 := HT.out.1.1.at.c4
          have c5 := HT.out.1.1.at.c5
          unfold wayM at c0 c1 c2 c3 c4 c5
          simp only at c0 c1 c2 c3 c4 c5
          have d0 := HT.out.2.1.at.c0
          have d1 := HT.out.2.1.at.c1
          have d2 := HT.out.2.1.at.c2
          have d3 := HT.out.2.1.at.c3
          have d4 := HT.out.2.1.at.c4
          have d5 := HT.out.2.1.at.c5
          unfold wayM at d0 d1 d2 d3 d4 d5
          simp only at d0 d1 d2 d3 d4 d5
          have q1 := HE1.out
          have q2 := HE2.out
          go_wp2_with fail
          go_roundw
          case rel => exact ⟨j + 1, (r + 1), _, rfl, by go_num, by go_num, by omega, by omega, Lib.hid (by rw [HQ.out]; exact HT.out.1)⟩
          case measure => simp only [RowKit.intOf]; omega
      | false =>
        obtain ⟨q, hq⟩ : ∃ q, stl p = q := ⟨_, rfl⟩
        by_cases h3 : r < 3
        · have bp : bsy p = true := by rw [← HPP.out, bsy_phR]; exact decide_eq_true h3
          have HQ := Lib.hid (show phR 0 = q by rw [← hq]; unfold stl; rw [if_pos ((bsy_iff p).1 bp)]; rfl)
          have sq : ¬ 3 < stp q := by rw [← HQ.out]; have := stp_phR 0; omega
          have bq : bsy q = bsy q := rfl
          have HNQ := Lib.hid fun V => HNX.out V p
          have HSQ := Lib.hid fun V => HST.out V p
          have HBP := Lib.hid fun V => HBU.out V p
          have HBQ := Lib.hid fun V => HBU.out V q
          have HPQ := Lib.hid fun V => HSP.out V q
          rw [bp] at HBP
          rw [bq] at HBQ
          rw [hq] at HSQ
          clear bp bq hq HPP HBQ
          go_wp2_with fail
          refine (HSQ.out _).mono ?_
          rintro e U1 ⟨rfl, k9⟩
          have HT9 := Lib.hid (HT.out.old k9)
          clear HT k9
          clear c0 c1 c2 c3 c4 c5 d0 d1 d2 d3 d4 d5
          have HT := HT9
          clear HT9
          have c0 := HT.out.1.1.at.c0
          have c1 := HT.out.1.1.at.c1
          have c2 := HT.out.1.1.at.c2
          have c3 := HT.out.1.1.at.c3
          have c4 := HT.out.1.1.at.c4
          have c5 := HT.out.1.1.at.c5
          unfold wayM at c0 c1 c2 c3 c4 c5
          simp only at c0 c1 c2 c3 c4 c5
          have d0 := HT.out.2.1.at.c0
          have d1 := HT.out.2.1.at.c1
          have d2 := HT.out.2.1.at.c2
          have d3 := HT.out.2.1.at.c3
          have d4 := HT.out.2.1.at.c4
          have d5 := HT.out.2.1.at.c5
          unfold wayM at d0 d1 d2 d3 d4 d5
          simp only at d0 d1 d2 d3 d4 d5
          have f0 := HT.out.1.1.fz 0
          have f1 := HT.out.1.1.fz 1
          have f2 := HT.out.1.1.fz 2
          have f3 := HT.out.1.1.fz 3
          have f4 := HT.out.1.1.fz 4
          have f5 := HT.out.1.1.fz 5
          go_upto_region 17 with fail
          have hs9 := HT.out.put q
          obtain ⟨U5, hU5⟩ : ∃ U5, ((((((U1.setCell ⟨y, 0, none⟩ (.int .i64 c)).setCell ⟨y, 1, none⟩ (.int .i64 1)).setCell ⟨y, 2, none⟩ (.int .i64 0)).setCell ⟨y, 3, none⟩ (.int .i64 0)).setCell ⟨y, 4, none⟩ (.int .i64 0)).setCell ⟨y, 5, none⟩ (.int .i64 q)) = U5 := ⟨_, rfl⟩
          rw [hU5] at hs9
          have HU5 := Lib.hid hU5
          clear HT f0 f1 f2 f3 f4 f5 hU5
          have HT := Lib.hid hs9
          clear hs9
          clear c0 c1 c2 c3 c4 c5 d0 d1 d2 d3 d4 d5
          rw [HU5.out]
          clear HU5
          have c0 := HT.out.1.1.at.c0
          have c1 := HT.out.1.1.at.c1
          have c2 := HT.out.1.1.at.c2
          have c3 := HT.out.1.1.at.c3
          have c4 := HT.out.1.1.at.c4
          have c5 := HT.out.1.1.at.c5
          unfold wayM at c0 c1 c2 c3 c4 c5
          simp only at c0 c1 c2 c3 c4 c5
          have d0 := HT.out.2.1.at.c0
          have d1 := HT.out.2.1.at.c1
          have d2 := HT.out.2.1.at.c2
          have d3 := HT.out.2.1.at.c3
          have d4 := HT.out.2.1.at.c4
          have d5 := HT.out.2.1.at.c5
          unfold wayM at d0 d1 d2 d3 d4 d5
          simp only at d0 d1 d2 d3 d4 d5
          go_wp2_with fail
          refine (HBP.out _).mono ?_
          rintro e U6 ⟨rfl, k9⟩
          have HT9 := Lib.hid (HT.out.old k9)
          clear HT k9
          clear c0 c1 c2 c3 c4 c5 d0 d1 d2 d3 d4 d5
          have HT := HT9
          clear HT9
          have c0 := HT.out.1.1.at.c0
          have c1 := HT.out.1.1.at.c1
          have c2 := HT.out.1.1.at.c2
          have c3 := HT.out.1.1.at.c3
          have c4 := HT.out.1.1.at.c4
          have c5 := HT.out.1.1.at.c5
          unfold wayM at c0 c1 c2 c3 c4 c5
          simp only at c0 c1 c2 c3 c4 c5
          have d0 := HT.out.2.1.at.c0
          have d1 := HT.out.2.1.at.c1
          have d2 := HT.out.2.1.at.c2
          have d3 := HT.out.2.1.at.c3
          have d4 := HT.out.2.1.at.c4
          have d5 := HT.out.2.1.at.c5
          unfold wayM at d0 d1 d2 d3 d4 d5
          simp only at d0 d1 d2 d3 d4 d5
          go_upto_region 19 with fail
          go_wp2_with fail
          refine (HPQ.out _).mono ?_
          rintro e U7 ⟨rfl, k9⟩
          have HT9 := Lib.hid (HT.out.old k9)
          clear HT k9
          clear c0 c1 c2 c3 c4 c5 d0 d1 d2 d3 d4 d5
          have HT := HT9
          clear HT9
          have c0 := HT.out.1.1.at.c0
          have c1 := HT.out.1.1.at.c1
          have c2 := HT.out.1.1.at.c2
          have c3 := HT.out.1.1.at.c3
          have c4 := HT.out.1.1.at.c4
          have c5 := HT.out.1.1.at.c5
          unfold wayM at c0 c1 c2 c3 c4 c5
          simp only at c0 c1 c2 c3 c4 c5
          have d0 := HT.out.2.1.at.c0
          have d1 := HT.out.2.1.at.c1
          have d2 := HT.out.2.1.at.c2
          have d3 := HT.out.2.1.at.c3
          have d4 := HT.out.2.1.at.c4
          have d5 := HT.out.2.1.at.c5
          unfold wayM at d0 d1 d2 d3 d4 d5
          simp only at d0 d1 d2 d3 d4 d5
          go_wp2_with fail
          refine (HBP.out _).mono ?_
          rintro e U8 ⟨rfl, k9⟩
          have HT9 := Lib.hid (HT.out.old k9)
          clear HT k9
          clear c0 c1 c2 c3 c4 c5 d0 d1 d2 d3 d4 d5
          have HT := HT9
          clear HT9
          have c0 := HT.out.1.1.at.c0
          have c1 := HT.out.1.1.at.c1
          have c2 := HT.out.1.1.at.c2
          have c3 := HT.out.1.1.at.c3
          have c4 := HT.out.1.1.at.c4
          have c5 := HT.out.1.1.at.c5
          unfold wayM at c0 c1 c2 c3 c4 c5
          simp only at c0 c1 c2 c3 c4 c5
          have d0 := HT.out.2.1.at.c0
          have d1 := HT.out.2.1.at.c1
          have d2 := HT.out.2.1.at.c2
          have d3 := HT.out.2.1.at.c3
          have d4 := HT.out.2.1.at.c4
          have d5 := HT.out.2.1.at.c5
          unfold wayM at d0 d1 d2 d3 d4 d5
          simp only at d0 d1 d2 d3 d4 d5
          have q1 := HE1.out
          have q2 := HE2.out
          go_wp2_with fail
          go_roundw
          case rel => exact ⟨j + 1, 0, _, rfl, by go_num, by go_num, by omega, by omega, Lib.hid (by rw [HQ.out]; exact HT.out.1)⟩
          case measure => simp only [RowKit.intOf]; omega
        · have bp : bsy p = false := by rw [← HPP.out, bsy_phR]; exact decide_eq_false h3
          have HQ := Lib.hid (show phR r = q by rw [← hq]; unfold stl; rw [if_neg (fun h => by rw [(bsy_iff p).2 h] at bp; cases bp)]; exact HPP.out)
          have sq : ¬ 3 < stp q := by rw [← HQ.out]; have := stp_phR r; omega
          have bq : bsy q = false := by rw [← HQ.out, bsy_phR]; exact decide_eq_false h3
          have r3 : (3 : Int) ≤ (r : Int) := by omega
          have HNQ := Lib.hid fun V => HNX.out V p
          have HSQ := Lib.hid fun V => HST.out V p
          have HBP := Lib.hid fun V => HBU.out V p
          have HBQ := Lib.hid fun V => HBU.out V q
          have HPQ := Lib.hid fun V => HSP.out V q
          rw [bp] at HBP
          rw [bq] at HBQ
          rw [hq] at HSQ
          clear bp bq hq HPP
          go_wp2_with fail
          refine (HSQ.out _).mono ?_
          rintro e U1 ⟨rfl, k9⟩
          have HT9 := Lib.hid (HT.out.old k9)
          clear HT k9
          clear c0 c1 c2 c3 c4 c5 d0 d1 d2 d3 d4 d5
          have HT := HT9
          clear HT9
          have c0 := HT.out.1.1.at.c0
          have c1 := HT.out.1.1.at.c1
          have c2 := HT.out.1.1.at.c2
          have c3 := HT.out.1.1.at.c3
          have c4 := HT.out.1.1.at.c4
          have c5 := HT.out.1.1.at.c5
          unfold wayM at c0 c1 c2 c3 c4 c5
          simp only at c0 c1 c2 c3 c4 c5
          have d0 := HT.out.2.1.at.c0
          have d1 := HT.out.2.1.at.c1
          have d2 := HT.out.2.1.at.c2
          have d3 := HT.out.2.1.at.c3
          have d4 := HT.out.2.1.at.c4
          have d5 := HT.out.2.1.at.c5
          unfold wayM at d0 d1 d2 d3 d4 d5
          simp only at d0 d1 d2 d3 d4 d5
          have f0 := HT.out.1.1.fz 0
          have f1 := HT.out.1.1.fz 1
          have f2 := HT.out.1.1.fz 2
          have f3 := HT.out.1.1.fz 3
          have f4 := HT.out.1.1.fz 4
          have f5 := HT.out.1.1.fz 5
          go_upto_region 17 with fail
          have hs9 := HT.out.put q
          obtain ⟨U5, hU5⟩ : ∃ U5, ((((((U1.setCell ⟨y, 0, none⟩ (.int .i64 c)).setCell ⟨y, 1, none⟩ (.int .i64 1)).setCell ⟨y, 2, none⟩ (.int .i64 0)).setCell ⟨y, 3, none⟩ (.int .i64 0)).setCell ⟨y, 4, none⟩ (.int .i64 0)).setCell ⟨y, 5, none⟩ (.int .i64 q)) = U5 := ⟨_, rfl⟩
          rw [hU5] at hs9
          have HU5 := Lib.hid hU5
          clear HT f0 f1 f2 f3 f4 f5 hU5
          have HT := Lib.hid hs9
          clear hs9
          clear c0 c1 c2 c3 c4 c5 d0 d1 d2 d3 d4 d5
          rw [HU5.out]
          clear HU5
          have c0 := HT.out.1.1.at.c0
          have c1 := HT.out.1.1.at.c1
          have c2 := HT.out.1.1.at.c2
          have c3 := HT.out.1.1.at.c3
          have c4 := HT.out.1.1.at.c4
          have c5 := HT.out.1.1.at.c5
          unfold wayM at c0 c1 c2 c3 c4 c5
          simp only at c0 c1 c2 c3 c4 c5
          have d0 := HT.out.2.1.at.c0
          have d1 := HT.out.2.1.at.c1
          have d2 := HT.out.2.1.at.c2
          have d3 := HT.out.2.1.at.c3
          have d4 := HT.out.2.1.at.c4
          have d5 := HT.out.2.1.at.c5
          unfold wayM at d0 d1 d2 d3 d4 d5
          simp only at d0 d1 d2 d3 d4 d5
          go_wp2_with fail
          refine (HBP.out _).mono ?_
          rintro e U6 ⟨rfl, k9⟩
          have HT9 := Lib.hid (HT.out.old k9)
          clear HT k9
          clear c0 c1 c2 c3 c4 c5 d0 d1 d2 d3 d4 d5
          have HT := HT9
          clear HT9
          have c0 := HT.out.1.1.at.c0
          have c1 := HT.out.1.1.at.c1
          have c2 := HT.out.1.1.at.c2
          have c3 := HT.out.1.1.at.c3
          have c4 := HT.out.1.1.at.c4
          have c5 := HT.out.1.1.at.c5
          unfold wayM at c0 c1 c2 c3 c4 c5
          simp only at c0 c1 c2 c3 c4 c5
          have d0 := HT.out.2.1.at.c0
          have d1 := HT.out.2.1.at.c1
          have d2 := HT.out.2.1.at.c2
          have d3 := HT.out.2.1.at.c3
          have d4 := HT.out.2.1.at.c4
          have d5 := HT.out.2.1.at.c5
          unfold wayM at d0 d1 d2 d3 d4 d5
          simp only at d0 d1 d2 d3 d4 d5
          go_upto_region 19 with fail
          go_wp2_with fail
          refine (HPQ.out _).mono ?_
          rintro e U7 ⟨rfl, k9⟩
          have HT9 := Lib.hid (HT.out.old k9)
          clear HT k9
          clear c0 c1 c2 c3 c4 c5 d0 d1 d2 d3 d4 d5
          have HT := HT9
          clear HT9
          have c0 := HT.out.1.1.at.c0
          have c1 := HT.out.1.1.at.c1
          have c2 := HT.out.1.1.at.c2
          have c3 := HT.out.1.1.at.c3
          have c4 := HT.out.1.1.at.c4
          have c5 := HT.out.1.1.at.c5
          unfold wayM at c0 c1 c2 c3 c4 c5
          simp only at c0 c1 c2 c3 c4 c5
          have d0 := HT.out.2.1.at.c0
          have d1 := HT.out.2.1.at.c1
          have d2 := HT.out.2.1.at.c2
          have d3 := HT.out.2.1.at.c3
          have d4 := HT.out.2.1.at.c4
          have d5 := HT.out.2.1.at.c5
          unfold wayM at d0 d1 d2 d3 d4 d5
          simp only at d0 d1 d2 d3 d4 d5
          go_wp2_with fail
          refine (HBQ.out _).mono ?_
          rintro e U8 ⟨rfl, k9⟩
          have HT9 := Lib.hid (HT.out.old k9)
          clear HT k9
          clear c0 c1 c2 c3 c4 c5 d0 d1 d2 d3 d4 d5
          have HT := HT9
          clear HT9
          have c0 := HT.out.1.1.at.c0
          have c1 := HT.out.1.1.at.c1
          have c2 := HT.out.1.1.at.c2
          have c3 := HT.out.1.1.at.c3
          have c4 := HT.out.1.1.at.c4
          have c5 := HT.out.1.1.at.c5
          unfold wayM at c0 c1 c2 c3 c4 c5
          simp only at c0 c1 c2 c3 c4 c5
          have d0 := HT.out.2.1.at.c0
          have d1 := HT.out.2.1.at.c1
          have d2 := HT.out.2.1.at.c2
          have d3 := HT.out.2.1.at.c3
          have d4 := HT.out.2.1.at.c4
          have d5 := HT.out.2.1.at.c5
          unfold wayM at d0 d1 d2 d3 d4 d5
          simp only at d0 d1 d2 d3 d4 d5
          go_wp2_with fail
          refine (HBP.out _).mono ?_
          rintro e U9 ⟨rfl, k9⟩
          have HT9 := Lib.hid (HT.out.old k9)
          clear HT k9
          clear c0 c1 c2 c3 c4 c5 d0 d1 d2 d3 d4 d5
          have HT := HT9
          clear HT9
          have c0 := HT.out.1.1.at.c0
          have c1 := HT.out.1.1.at.c1
          have c2 := HT.out.1.1.at.c2
          have c3 := HT.out.1.1.at.c3
          have c4 := HT.out.1.1.at.c4
          have c5 := HT.out.1.1.at.c5
          unfold wayM at c0 c1 c2 c3 c4 c5
          simp only at c0 c1 c2 c3 c4 c5
          have d0 := HT.out.2.1.at.c0
          have d1 := HT.out.2.1.at.c1
          have d2 := HT.out.2.1.at.c2
          have d3 := HT.out.2.1.at.c3
          have d4 := HT.out.2.1.at.c4
          have d5 := HT.out.2.1.at.c5
          unfold wayM at d0 d1 d2 d3 d4 d5
          simp only at d0 d1 d2 d3 d4 d5
          go_wp2_with fail
          refine (HBQ.out _).mono ?_
          rintro e U10 ⟨rfl, k9⟩
          have HT9 := Lib.hid (HT.out.old k9)
          clear HT k9
          clear c0 c1 c2 c3 c4 c5 d0 d1 d2 d3 d4 d5
          have HT := HT9
          clear HT9
          have c0 := HT.out.1.1.at.c0
          have c1 := HT.out.1.1.at.c1
          have c2 := HT.out.1.1.at.c2
          have c3 := HT.out.1.1.at.c3
          have c4 := HT.out.1.1.at.c4
          have c5 := HT.out.1.1.at.c5
          unfold wayM at c0 c1 c2 c3 c4 c5
          simp only at c0 c1 c2 c3 c4 c5
          have d0 := HT.out.2.1.at.c0
          have d1 := HT.out.2.1.at.c1
          have d2 := HT.out.2.1.at.c2
          have d3 := HT.out.2.1.at.c3
          have d4 := HT.out.2.1.at.c4
          have d5 := HT.out.2.1.at.c5
          unfold wayM at d0 d1 d2 d3 d4 d5
          simp only at d0 d1 d2 d3 d4 d5
          have q1 := HE1.out
          have q2 := HE2.out
          go_wp2_with fail
          go_roundw
          case rel => exact ⟨j + 1, r, _, rfl, by go_num, by go_num, by omega, by omega, Lib.hid (by rw [HQ.out]; exact HT.out.1)⟩
          case measure => simp only [RowKit.intOf]; omega
    · have j1 : ¬ (j : Int) < (len : Int) := by omega
      have hn1 : nxt (nxt (nxt (phR r))) = 4 := nxt_end r
      generalize phR r = p at HJ hn1
      have c0 := HJ.out.1.at.c0
      have c1 := HJ.out.1.at.c1
      have c2 := HJ.out.1.at.c2
      have c3 := HJ.out.1.at.c3
      have c4 := HJ.out.1.at.c4
      have c5 := HJ.out.1.at.c5
      unfold wayM at c0 c1 c2 c3 c4 c5
      simp only at c0 c1 c2 c3 c4 c5
      clear hlt hj hrj
      go_wp2_with fail
      refine (HNX.out _ _).mono ?_
      rintro e V5 ⟨rfl, k5⟩
      go_wp2_with fail
      refine (HNX.out _ _).mono ?_
      rintro e V6 ⟨rfl, k6⟩
      go_wp2_with fail
      refine (HNX.out _ _).mono ?_
      rintro e V7 ⟨rfl, k7⟩
      have HF := Lib.hid (HJ.out.2.1.onM (k5.onM (k6.onM k7)))
      clear k5 k6 k7 c0 c1 c2 c3 c4 c5
      rw [hn1]
      clear hn1
      have hf := run_phase c 4
      go_wp2_with fail
      go_ret
      exact ⟨rfl, HF.out⟩

end Go.Proofs.Ytaaohockmpmaoaa
