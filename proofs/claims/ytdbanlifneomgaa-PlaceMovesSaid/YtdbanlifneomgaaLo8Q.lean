import Derived.Test.YtdbanlifneomgaaRm8Q
/- Package tree's lower. -/
set_option linter.unusedVariables false
namespace Go.Proofs.Ytdbanlifneomgaa
open Go.RowKit

/-- The level in a lead's box. -/
def lvAt (W : World) (B : Nat) : Nat := match W.cell? ⟨B, 2, none⟩ with
  | some (.int _ n) => n.toNat
  | _ => 0
theorem lvAt_box {W : World} {B q lo hi : Nat} {root : Bool} {l : Nat} (h : BoxD B q root (l : Int) lo hi W) : lvAt W B = l := by
  unfold lvAt
  rw [h.c2]
  simp

/-- What stands in lower's loop. -/
def LoI (N : List Nd) (w : World) (B P : Nat) (W : World) : Prop := ∃ (l lo hi q : Nat) (ps qs : Pairs) (g : List Nat), SndL N false (l : Int) lo hi l q ps qs g ∧ l ≤ 7 ∧ ps.length ≤ 15 ∧ hi < 18446744073709551616 ∧ lowM N l q = P ∧ BoxD B q false (l : Int) lo hi W ∧ KeptIn (· < w.heap.size) w W

theorem lo_far {N : List Nd} {l q : Nat} {ps : Pairs} (h : nodeOf N q = some (l, ps)) (hl : l = 0 ∨ 1 < ps.length) : lowM N l q = q := by
  cases l with
  | zero => rfl
  | succ l => unfold lowM; rw [h]; dsimp only; rw [if_pos (by omega)]
theorem lo_near {N : List Nd} {l q : Nat} {ps : Pairs} (h : nodeOf N q = some (l + 1, ps)) (hl : ¬ 1 < ps.length) : lowM N (l + 1) q = lowM N l (valAt ps 0) := by
  rw [lowM]; rw [h]; dsimp only; rw [if_neg hl]

theorem lo_next {N : List Nd} (hN : N.length ≤ 511) {w V4 : World} {B P l lo hi q : Nat} {ps qs : Pairs} {g : List Nat} (hS : SndL N false ((l + 1 : Nat) : Int) lo hi (l + 1) q ps qs g) (hl : l + 1 ≤ 7) (hh : hi < 18446744073709551616) (hf : Fits ps) (h1 : ¬ 1 < ps.length) (hP : lowM N (l + 1) q = P)
    (hb : BoxD B q false ((l + 1 : Nat) : Int) lo hi V4) (hk : KeptIn (· < w.heap.size) w V4) (hB : w.heap.size ≤ B) :
    LoI N w B P (((((V4.setCell ⟨B, 0, none⟩ (.int .i64 (valAt ps 0 : Int))).setCell ⟨B, 1, none⟩ (.bool false)).setCell ⟨B, 2, none⟩ (.int .i64 (l : Int))).setCell ⟨B, 3, none⟩ (.int .u64 (keyAt ps 0 : Int))).setCell ⟨B, 4, none⟩ (.int .u64 (highOf ps 0 hi : Int))) := by
  have h0 := (fit_good' hS.fit).2
  obtain ⟨ps', q1, q2, q3, g1, g', g3, _, _, hc, _, _, h15, _⟩ := hS.kid hl hN 0 h0
  exact ⟨l, _, _, _, ps', q2, g', hc, by omega, h15, highOf_lt ps 0 hi hf hh, by rw [← hP, lo_near hS.node h1], hb.set, hk.trans (leadSet.mono fun k h1 e => by rw [e] at h1; exact absurd h1 (Nat.not_lt.2 hB))⟩

/-- Behind the reading of a node: its box and the lead's. -/
theorem lo_frame {w W V : World} {B q lo hi g cg : Nat} {lv : Int} {ps : Pairs} (hb : BoxD B q false lv lo hi W) (hkW : KeptIn (· < w.heap.size) w W) (hps : IsPs V (some ⟨g, 0, none⟩) ps) (hkV : KeptIn (· < W.heap.size) W V) (LV : Int) (n : Nat) :
    ∃ V0 y, V.alloc (.cells #[.int .i64 LV, .slice (some ⟨g, 0, none⟩) n cg] 27) = V0 ∧ V.heap.size = y ∧ Hid (BoxD B q false lv lo hi V0 ∧ BoxL y LV (some ⟨g, 0, none⟩) n cg V0 ∧ IsPs V0 (some ⟨g, 0, none⟩) ps ∧ KeptIn (· < w.heap.size) w V0) := by
  have hkA : KeptIn (· < V.heap.size) V (V.alloc (.cells #[.int .i64 LV, .slice (some ⟨g, 0, none⟩) n cg] 27)) := (KeptIn.refl _ V).alloc (fun _ h => h) _
  have hkT := hkV.go hkA
  exact ⟨_, _, rfl, rfl, Lib.hid ⟨hb.kept hkT hb.lt, BoxL.new V _ _ _ _, hps.old hkA, hkW.go hkT⟩⟩

set_option maxHeartbeats 4000000 in
set_option maxRecDepth 100000 in
theorem trLower {N : List Nd} (hN : N.length ≤ 511) {w : World} {s room : Nat} {D : Nat → Prop} (h : IsSh w s room N D) {l lo hi p : Nat} {ps qs : Pairs} {g0 : List Nat} (hS : SndL N false (l : Int) lo hi l p ps qs g0) (hl7 : l ≤ 7) (h15 : ps.length ≤ 15) (hhi : hi < 18446744073709551616) :
    Calls Try.prog 67 #[pgV s, leadV p false (l : Int) lo hi] w fun e w' => e = .returned (.tuple #[.int .i64 (lowM N l p : Int), .int .i64 0]) ∧ KeptIn (· < w.heap.size) w w' := by
  obtain ⟨P, hP⟩ : ∃ P, lowM N l p = P := ⟨_, rfl⟩
  rw [hP]
  obtain ⟨W, hW⟩ : ∃ W, w.alloc (.cells #[.int .i64 (p : Int), .bool false, .int .i64 (l : Int), .int .u64 (lo : Int), .int .u64 (hi : Int)] 118) = W := ⟨_, rfl⟩
  obtain ⟨B, hB⟩ : ∃ B, w.heap.size = B := ⟨_, rfl⟩
  have hkW : KeptIn (· < w.heap.size) w W := by rw [← hW]; exact (KeptIn.refl _ w).alloc (fun _ h => h) _
  have hbd : BoxD B p false (l : Int) lo hi W := by rw [← hW, ← hB]; exact BoxD.new w p false (l : Int) lo hi
  have HI0 : Hid (LoI N w B P W) := Lib.hid ⟨l, lo, hi, p, ps, qs, g0, hS, hl7, h15, hhi, hP, hbd, hkW⟩
  have HS := Lib.hid (And.intro h (Nat.le_of_eq hB))
  unfold pgV leadV
  clear h hS hP hkW hbd h15 hhi
  go_enter Try.func67, Try.ntmps67
  go_wp2_with fail
  clear hW hB
  go_loopw [] (fun wr => ∃ (W : World), W = wr ∧ Hid (LoI N w B P W)) (fun wr => lvAt wr B)
  case atStart => exact ⟨_, rfl, HI0⟩
  case round =>
    obtain ⟨W, rfl, HJ⟩ := hrel
    clear HI0
    obtain ⟨l, lo, hi, q, ps, qs, g1, hS, hl7, h15, hhi, hP, hbd, hkW⟩ := HJ.out
    obtain ⟨ix, hix, hqi, hni⟩ := nodeOf_at hS.node
    have CL := trLeadRead (HS.out.1.old hkW) ix hix false (l : Int) lo hi (by rw [hni]; exact hS.fit)
    rw [hqi, hni] at CL
    obtain ⟨n, hn⟩ : ∃ n, ps.length = n := ⟨_, rfl⟩
    obtain ⟨LV, hLV⟩ : ∃ LV : Int, (l : Int) = LV := ⟨_, rfl⟩
    have HC := Lib.hid (Calls.mono CL (R' := fun e w' => ∃ g cg, e = .returned (.tuple #[.agg #[.int .i64 LV, .slice (some ⟨g, 0, none⟩) n cg], .int .i64 0]) ∧ IsPs w' (some ⟨g, 0, none⟩) ps ∧ KeptIn (· < W.heap.size) W w') fun e w' ⟨g, cg, h1, h2, _, h3, _⟩ => ⟨g, cg, by rw [← hn, ← hLV]; exact h1, h2, h3⟩)
    unfold pgV leadV at *
    have hlv := lvAt_box hbd
    have HLV := Lib.hid hlv
    rw [hLV] at HC
    have d0 := hbd.c0
    have d1 := hbd.c1
    have d2 := hbd.c2
    have d3 := hbd.c3
    have d4 := hbd.c4
    rw [hLV] at d2
    have HD := Lib.hid (And.intro hS (And.intro hl7 (And.intro h15 (And.intro hhi (And.intro hP (And.intro hbd (And.intro hkW (And.intro hn hLV))))))))
    have hpos : 0 < n := by rw [← hn]; exact (fit_good' hS.fit).2
    clear CL hS h15 hhi hP hbd hkW hn hLV hix hqi hni hlv HJ
    by_cases hfin : l = 0 ∨ 1 < n
    · have HE : Hid (q = P) := Lib.hid (by rw [← HD.out.2.2.2.2.1]; exact (lo_far HD.out.1.node (by rw [HD.out.2.2.2.2.2.2.2.1]; exact hfin)).symm)
      by_cases hz : l = 0
      · have z0 : (LV == 0) = true := by rw [← HD.out.2.2.2.2.2.2.2.2, hz]; rfl
        clear hfin hz hpos hl7
        go_wp2_with (go_at_call 48; refine HC.out.mono ?_; rintro e V ⟨g, cg, rfl, hps, hkV⟩; obtain ⟨V0, y, hV0, hy, HF⟩ := lo_frame (cg := cg) HD.out.2.2.2.2.2.1 HD.out.2.2.2.2.2.2.1 hps hkV LV n; have y0 := HF.out.2.1.c0; have y1 := HF.out.2.1.c1; have x0 := HF.out.1.c0; have x4 := HF.out.1.c4; clear hps hkV)
        go_ret2
        have hq := HE.out
        have hk9 := HF.out.2.2.2
        subst hq
        exact ⟨rfl, hk9⟩
      · have z0 : (LV == 0) = false := by rw [← HD.out.2.2.2.2.2.2.2.2, beq_eq_false_iff_ne]; omega
        have z1 : ¬ LV = 0 := by rw [← HD.out.2.2.2.2.2.2.2.2]; omega
        have z2 : (1 : Int) < (n : Int) := by omega
        have z3 : 1 < n := by omega
        clear hfin hz hpos hl7
        go_wp2_with (go_at_call 48; refine HC.out.mono ?_; rintro e V ⟨g, cg, rfl, hps, hkV⟩; obtain ⟨V0, y, hV0, hy, HF⟩ := lo_frame (cg := cg) HD.out.2.2.2.2.2.1 HD.out.2.2.2.2.2.2.1 hps hkV LV n; have y0 := HF.out.2.1.c0; have y1 := HF.out.2.1.c1; have x0 := HF.out.1.c0; have x4 := HF.out.1.c4; clear hps hkV)
        go_ret2
        have hq := HE.out
        have hk9 := HF.out.2.2.2
        subst hq
        exact ⟨rfl, hk9⟩
    · obtain ⟨l, rfl⟩ : ∃ k, l = k + 1 := ⟨l - 1, by omega⟩
      have z0 : (LV == 0) = false := by rw [← HD.out.2.2.2.2.2.2.2.2, beq_eq_false_iff_ne]; omega
      have z1 : ¬ LV = 0 := by rw [← HD.out.2.2.2.2.2.2.2.2]; omega
      have z2 : ¬ (1 : Int) < (n : Int) := by omega
      have z3 : ¬ 1 < n := by omega
      have hgood := (fit_good' HD.out.1.fit).1
      have hn := HD.out.2.2.2.2.2.2.2.1
      have CT : ∀ (g cg : Nat) (V0 : World), IsPs V0 (some ⟨g, 0, none⟩) ps → Calls Try.prog 51 #[.agg #[.int .i64 LV, .slice (some ⟨g, 0, none⟩) n cg], .int .i64 0, .int .u64 (hi : Int)] V0 fun e w' => e = .returned (.agg #[.int .i64 (valAt ps 0 : Int), .bool false, .int .i64 (l : Int), .int .u64 (keyAt ps 0 : Int), .int .u64 (highOf ps 0 hi : Int)]) ∧ KeptIn (· < V0.heap.size) V0 w' := by
        intro g cg V0 hp
        have CT := trToChild (l + 1) (some ⟨g, 0, none⟩) cg ps 0 hi V0 hp (good_rises hgood) (by rw [hn]; exact hpos) (by have := HD.out.2.2.1; omega) ⟨by omega, hl7⟩ (good_vals hgood (by omega) 0 (by rw [hn]; exact hpos)).2
        rw [show ((l + 1 : Nat) : Int) - 1 = (l : Int) by omega, HD.out.2.2.2.2.2.2.2.2, hn] at CT
        exact CT
      obtain ⟨vv, hvv⟩ : ∃ vv, valAt ps 0 = vv := ⟨_, rfl⟩
      obtain ⟨kk, hkk⟩ : ∃ kk, keyAt ps 0 = kk := ⟨_, rfl⟩
      obtain ⟨hh, hhh⟩ : ∃ hh, highOf ps 0 hi = hh := ⟨_, rfl⟩
      rw [hvv, hkk, hhh] at CT
      have HCT := Lib.hid CT
      have HX := Lib.hid (And.intro hvv (And.intro hkk (And.intro hhh (show ¬ 1 < ps.length by rw [hn]; exact z3))))
      clear CT hvv hkk hhh hgood hn hfin hpos
      go_wp2_with (go_at_call 48; refine HC.out.mono ?_; rintro e V ⟨g, cg, rfl, hps, hkV⟩; obtain ⟨V0, y, hV0, hy, HF⟩ := lo_frame (cg := cg) HD.out.2.2.2.2.2.1 HD.out.2.2.2.2.2.2.1 hps hkV LV n; have y0 := HF.out.2.1.c0; have y1 := HF.out.2.1.c1; have x0 := HF.out.1.c0; have x4 := HF.out.1.c4; clear hps hkV)
      have HCB := Lib.hid (HCT.out g cg V0 HF.out.2.2.1)
      clear HCT
      go_wp2_with (go_at_call 51; refine HCB.out.mono ?_)
      rintro e V4 ⟨rfl, hk4⟩
      have hbd4 := HF.out.1.kept hk4 HF.out.1.lt
      have e0 := hbd4.c0
      have e1 := hbd4.c1
      have e2 := hbd4.c2
      have e3 := hbd4.c3
      have e4 := hbd4.c4
      have f0 := hbd4.f0
      have f1 := hbd4.f1
      have f2 := hbd4.f2
      have f3 := hbd4.f3
      have f4 := hbd4.f4
      have HJ2 := lo_next hN HD.out.1 hl7 HD.out.2.2.2.1 HF.out.2.2.1.fits HX.out.2.2.2 HD.out.2.2.2.2.1 hbd4 (HF.out.2.2.2.go hk4) HS.out.2
      rw [HX.out.1, HX.out.2.1, HX.out.2.2.1] at HJ2
      have HJ3 := Lib.hid HJ2
      have HM : Hid (lvAt (((((V4.setCell ⟨B, 0, none⟩ (.int .i64 (vv : Int))).setCell ⟨B, 1, none⟩ (.bool false)).setCell ⟨B, 2, none⟩ (.int .i64 (l : Int))).setCell ⟨B, 3, none⟩ (.int .u64 (kk : Int))).setCell ⟨B, 4, none⟩ (.int .u64 (hh : Int))) B < lvAt W B) := Lib.hid (by
        rw [HLV.out, lvAt_box (hbd4.set (page' := vv) (root' := false) (lv' := (l : Int)) (low' := kk) (high' := hh))]
        omega)
      clear HJ2 hbd4 hk4 HD HF HX y0 y1 x0 x4 z0 z1 z2 z3 HLV
      go_wp2_with fail
      go_roundw
      case rel => exact ⟨_, rfl, HJ3⟩
      case measure => exact HM.out

end Go.Proofs.Ytdbanlifneomgaa
