/- Places: the document's Good. -/
import Derived.Test.YtdbanlifneomgaaPf14
import Derived.Test.YtdbanlifneomgaaQk13
import Derived.Deep.RegionHeld3
import Derived.Deep.Cut
import Derived.Deep.CutRange
import Derived.Deep.CutBlock
set_option linter.unusedVariables false
namespace Go.Proofs.Ytdbanlifneomgaa
open Go.RowKit

/-- Places' chunks in memory; places' spots in memory. -/
structure IsCs (W : World) (a : Option Addr) (vs : List Pla) : Prop where
  len : vs.length ≤ maxLen
  cells : 0 < vs.length → ∃ b off, a = some ⟨b, off, none⟩ ∧ b < W.heap.size ∧ ∀ i, i < vs.length → W.cell? ⟨b, off + i, none⟩ = some (.int .i64 (vs.getD i pla0).ch)
structure IsSs (W : World) (a : Option Addr) (vs : List Pla) : Prop where
  len : vs.length ≤ maxLen
  cells : 0 < vs.length → ∃ b off, a = some ⟨b, off, none⟩ ∧ b < W.heap.size ∧ ∀ i, i < vs.length → W.cell? ⟨b, off + i * 2, none⟩ = some (.int .i64 (vs.getD i pla0).tier) ∧ W.cell? ⟨b, off + i * 2 + 1, none⟩ = some (.int .i64 (vs.getD i pla0).slot)
theorem IsCs.old {W W' : World} {a : Option Addr} {vs : List Pla} (h : IsCs W a vs) (hk : KeptIn (· < W.heap.size) W W') : IsCs W' a vs :=
  ⟨h.len, fun hp => by
    obtain ⟨b, off, e, hb, hc⟩ := h.cells hp
    exact ⟨b, off, e, Nat.lt_of_lt_of_le hb hk.size, fun i hi => (World.cell?_of_block (a := ⟨b, off + i, none⟩) (hk.block b hb)).trans (hc i hi)⟩⟩
theorem IsSs.old {W W' : World} {a : Option Addr} {vs : List Pla} (h : IsSs W a vs) (hk : KeptIn (· < W.heap.size) W W') : IsSs W' a vs :=
  ⟨h.len, fun hp => by
    obtain ⟨b, off, e, hb, hc⟩ := h.cells hp
    exact ⟨b, off, e, Nat.lt_of_lt_of_le hb hk.size, fun i hi => ⟨(World.cell?_of_block (a := ⟨b, off + i * 2, none⟩) (hk.block b hb)).trans (hc i hi).1, (World.cell?_of_block (a := ⟨b, off + i * 2 + 1, none⟩) (hk.block b hb)).trans (hc i hi).2⟩⟩⟩

/-- What stands in the loops. -/
def Ge14 (w : World) (y : Nat) (s0 s1 : Int) (W : World) : Prop := KeptIn (· < w.heap.size) w W ∧ BoxW2 y s0 s1 W
theorem Ge14.old {w W W' : World} {y : Nat} {s0 s1 : Int} (h : Ge14 w y s0 s1 W) (hk : KeptIn (· < W.heap.size) W W') : Ge14 w y s0 s1 W' := ⟨h.1.go hk, h.2.kept hk h.2.lt⟩


set_option maxRecDepth 100000 in
set_option maxHeartbeats 4000000 in
theorem r14Good (a a' : Option Addr) (n cap cap' : Nat) (vs : List Pla) (s0 s1 : Int) (w : World) (h : IsCs w a vs) (h' : IsSs w a' vs) (hn : vs.length = n) (hl : n ≤ 100000) :
    Calls Try.prog 18 #[.slice a n cap, .slice a' n cap', .agg #[.int .i64 s0, .int .i64 s1]] w fun e w' => e = .returned (.bool (okL vs s0 s1)) ∧ KeptIn (· < w.heap.size) w w' := by
  obtain ⟨R, hR⟩ : ∃ R, okL vs s0 s1 = R := ⟨_, rfl⟩
  have HR := Lib.hid hR
  rw [hR]
  have H := Lib.hid (And.intro h (And.intro h' hn))
  obtain ⟨y, hy⟩ : ∃ y, w.heap.size = y := ⟨_, rfl⟩
  obtain ⟨W0, hW0⟩ : ∃ W0, w.alloc (.cells #[.int .i64 s0, .int .i64 s1] 52) = W0 := ⟨_, rfl⟩
  have HW := Lib.hid (And.intro hW0 hy)
  have hnI : (n : Int) ≤ 100000 := by omega
  have HJ0 : Hid (Ge14 w y s0 s1 W0 ∧ ∀ i, i < 0 → OkAt vs s0 s1 i) := Lib.hid ⟨⟨by rw [← hW0]; exact (KeptIn.refl _ w).alloc (fun _ h => h) _, by rw [← hW0, ← hy]; exact BoxW2.new w s0 s1⟩, fun i hi => absurd hi (Nat.not_lt_zero _)⟩
  clear h h' hn hR hW0 hy
  go_enter Try.func18, Try.ntmps18
  go_wp2_with fail
  rw [HW.out.1]
  simp only [HW.out.2]
  go_loopw [7, 8] (fun i _ wr => ∃ (j : Nat) (W : World), W = wr ∧ j ≤ n ∧ i = .int .i64 (j : Int) ∧ Hid (Ge14 w y s0 s1 W ∧ ∀ i, i < j → OkAt vs s0 s1 i)) (fun i _ _ => n - (RowKit.intOf i).toNat)
  case atStart => exact ⟨0, _, rfl, Nat.zero_le _, rfl, HJ0⟩
  case round =>
    obtain ⟨j, W, rfl, hj, rfl, HJ⟩ := hrel
    clear HJ0
    have d0 : (0 : Int) ≤ (j : Int) := by omega
    by_cases hlt : j < n
    · have d1 : (j : Int) < (n : Int) := by omega
      have hjl : j < vs.length := by rw [H.out.2.2]; exact hlt
      obtain ⟨b, off, rfl, hb, hc⟩ := H.out.1.cells (by omega)
      obtain ⟨b2, of2, rfl, hb2, hc2⟩ := H.out.2.1.cells (by omega)
      have HNO := Lib.hid fun (hx : ¬ OkAt vs s0 s1 j) => HR.out.symm.trans (okL_no hjl hx)
      have hkp : ∀ p : KW W, KeptIn (· < w.heap.size) w p.V := fun p => HJ.out.1.1.go p.hk
      obtain ⟨x, hx⟩ : ∃ x, vs.getD j pla0 = x := ⟨_, rfl⟩
      have HX := Lib.hid hx
      have g0 : ∀ p : KW W, p.V.cell? ⟨b, off + j, none⟩ = some (.int .i64 x.ch) := fun p => by rw [← hx]; exact (World.cell?_of_block (a := ⟨b, off + j, none⟩) ((hkp p).block b hb)).trans (hc j hjl)
      have g1 : ∀ p : KW W, p.V.cell? ⟨b2, of2 + j * 2, none⟩ = some (.int .i64 x.tier) := fun p => by rw [← hx]; exact (World.cell?_of_block (a := ⟨b2, of2 + j * 2, none⟩) ((hkp p).block b2 hb2)).trans (hc2 j hjl).1
      have g2 : ∀ p : KW W, p.V.cell? ⟨b2, of2 + j * 2 + 1, none⟩ = some (.int .i64 x.slot) := fun p => by rw [← hx]; exact (World.cell?_of_block (a := ⟨b2, of2 + j * 2 + 1, none⟩) ((hkp p).block b2 hb2)).trans (hc2 j hjl).2
      have HCC := Lib.hid (And.intro hb (And.intro hc (And.intro hb2 hc2)))
      have HKP := Lib.hid hkp
      have HJL := Lib.hid hjl
      clear hc hc2 hb hb2 hx hjl hkp
      have HC := Lib.hid fun (p : KW W) => r14Can x p.V
      by_cases hg : GoodP x
      · have HGD := Lib.hid hg
        rw [decide_eq_true hg] at HC
        obtain ⟨c0, t, s, rfl, -, -, ht, hs⟩ := goodP_nats hg
        unfold spotV at HC
        simp only at HC g0 g1 g2
        have htI : (t : Int) < 2 := by omega
        have ht0 : (0 : Int) ≤ (t : Int) := by omega
        obtain ⟨sl, hsl⟩ : ∃ sl, slotsOf s0 s1 (t : Int) = sl := ⟨_, rfl⟩
        have HSL := Lib.hid hsl
        have p3 : ∀ p : KW W, p.V.cell? ⟨y, t, none⟩ = some (.int .i64 sl) := fun p => by
          have := (HJ.out.1.2.kept p.hk HJ.out.1.2.lt).at ht
          rw [HSL.out] at this
          exact this
        clear hg hsl
        by_cases hlo : (s : Int) < sl
        · have l1 : ¬ sl ≤ (s : Int) := by omega
          have l2 : decide (sl ≤ (s : Int)) = false := decide_eq_false l1
          by_cases hj0 : 0 < j
          · have j1 : (0 : Int) < (j : Int) := by omega
            have j2 : decide ((0 : Int) < (j : Int)) = true := decide_eq_true j1
            have j3 : decide (0 < j) = true := decide_eq_true hj0
            have gq : ∀ p : KW W, p.V.cell? ⟨b, off + (j - 1), none⟩ = some (.int .i64 (vs.getD (j - 1) pla0).ch) := fun p => (World.cell?_of_block (a := ⟨b, off + (j - 1), none⟩) ((HKP.out p).block b HCC.out.1)).trans (HCC.out.2.1 (j - 1) (by have := HJL.out; omega))
            obtain ⟨cp, hcp⟩ : ∃ cp, (vs.getD (j - 1) pla0).ch = cp := ⟨_, rfl⟩
            rw [hcp] at gq
            have HCP := Lib.hid hcp
            clear hcp
            by_cases hle : (c0 : Int) ≤ cp
            · have HF : Hid (R = false) := Lib.hid (HNO.out fun h => by
                have h2 := h.2.2.1 hj0
                rw [HX.out, HCP.out] at h2
                simp only at h2
                omega)
              go_wp2_with fail
              refine wp_region_quiet_kept (by kernel_rfl) (by kernel_rfl) ?_
              repeat (go_big_quiet_step ((go_at_call 13; exact Calls.kept_of (HC.out _))))
              refine wpQuiet_nil ?_
              intro V hw'
              obtain ⟨⟨V2, hV⟩, hw''⟩ := hw'
              subst hw''
              clear g0 g1 g2 p3 gq
              go_wp2_with fail
              go_ret
              rw [HF.out]
              exact ⟨rfl, HJ.out.1.1.go hV⟩
            · have q1 : decide ((c0 : Int) ≤ cp) = false := decide_eq_false hle
              have HPV : Hid (0 < j → (vs.getD (j - 1) pla0).ch < (vs.getD j pla0).ch) := Lib.hid fun _ => by rw [HX.out, HCP.out]; simp only; omega
              go_wp2_with fail
              refine wp_region_quiet_kept (by kernel_rfl) (by kernel_rfl) ?_
              repeat (go_big_quiet_step ((go_at_call 13; exact Calls.kept_of (HC.out _))))
              refine wpQuiet_nil ?_
              intro V hw'
              obtain ⟨⟨V2, hV⟩, hw''⟩ := hw'
              subst hw''
              clear gq q1 hle l1 l2 HCP
              have HJ1 := Lib.hid (And.intro (HJ.out.1.old hV) HJ.out.2)
              have HPRE : Hid (GoodP (vs.getD j pla0) ∧ (vs.getD j pla0).slot < slotsOf s0 s1 (vs.getD j pla0).tier ∧ (0 < j → (vs.getD (j - 1) pla0).ch < (vs.getD j pla0).ch)) := Lib.hid ⟨by rw [HX.out]; exact HGD.out, by rw [HX.out]; simp only; rw [HSL.out]; exact hlo, HPV.out⟩
              clear HJ hV p3 g0 g1 g2 HC HGD HSL HPV hlo htI ht0
              go_wp2_with fail
              go_loopw [8] (fun k wr => ∃ (q : Nat) (V9 : World), V9 = wr ∧ q ≤ j ∧ k = .int .i64 (q : Int) ∧ Hid (Ge14 w y s0 s1 V9 ∧ (∀ i, i < j → OkAt vs s0 s1 i) ∧ ∀ k, k < q → ¬ ((vs.getD k pla0).tier = (vs.getD j pla0).tier ∧ (vs.getD k pla0).slot = (vs.getD j pla0).slot))) (fun k _ => j - (RowKit.intOf k).toNat)
              case atStart => exact ⟨0, _, rfl, Nat.zero_le _, rfl, Lib.hid ⟨HJ1.out.1, HJ1.out.2, fun k hk => absurd hk (Nat.not_lt_zero _)⟩⟩
              case round =>
                obtain ⟨q, V9, rfl, hq, rfl, HQ⟩ := hrel
                clear HJ1
                have q0 : (0 : Int) ≤ (q : Int) := by omega
                by_cases hqj : q < j
                · have q1 : (q : Int) < (j : Int) := by omega
                  have q2 : (q : Int) < (n : Int) := by omega
                  have hb9 := HQ.out.1.1.block b2 HCC.out.2.2.1
                  have f1 := (World.cell?_of_block (a := ⟨b2, of2 + j * 2, none⟩) hb9).trans (HCC.out.2.2.2 j HJL.out).1
                  have f2 := (World.cell?_of_block (a := ⟨b2, of2 + j * 2 + 1, none⟩) hb9).trans (HCC.out.2.2.2 j HJL.out).2
                  have e1 := (World.cell?_of_block (a := ⟨b2, of2 + q * 2, none⟩) hb9).trans (HCC.out.2.2.2 q (by have := HJL.out; omega)).1
                  have e2 := (World.cell?_of_block (a := ⟨b2, of2 + q * 2 + 1, none⟩) hb9).trans (HCC.out.2.2.2 q (by have := HJL.out; omega)).2
                  obtain ⟨tq, htq⟩ : ∃ tq, (vs.getD q pla0).tier = tq := ⟨_, rfl⟩
                  obtain ⟨sq, hsq⟩ : ∃ sq, (vs.getD q pla0).slot = sq := ⟨_, rfl⟩
                  obtain ⟨tj, htj⟩ : ∃ tj, (vs.getD j pla0).tier = tj := ⟨_, rfl⟩
                  obtain ⟨sj, hsj⟩ : ∃ sj, (vs.getD j pla0).slot = sj := ⟨_, rfl⟩
                  rw [htq] at e1
                  rw [hsq] at e2
                  rw [htj] at f1
                  rw [hsj] at f2
                  have HE := Lib.hid (And.intro htq (And.intro hsq (And.intro htj hsj)))
                  clear hb9 htq hsq htj hsj
                  by_cases h1 : tq = tj
                  · by_cases h2 : sq = sj
                    · have HF : Hid (R = false) := Lib.hid (HNO.out fun h => h.2.2.2 q hqj ⟨by rw [HE.out.1, HE.out.2.2.1, h1], by rw [HE.out.2.1, HE.out.2.2.2, h2]⟩)
                      subst h1 h2
                      go_wp2_with fail
                      go_quiet (fail)
                      go_wp2_with fail
                      go_ret
                      rw [HF.out]
                      exact ⟨rfl, HQ.out.1.1.drewN _⟩
                    · have HNX : Hid (¬ ((vs.getD q pla0).tier = (vs.getD j pla0).tier ∧ (vs.getD q pla0).slot = (vs.getD j pla0).slot)) := Lib.hid (by rw [HE.out.2.1, HE.out.2.2.2]; exact fun h => h2 h.2)
                      have n1 : (sq == sj) = false := by rw [beq_eq_false_iff_ne]; exact h2
                      subst h1
                      go_wp2_with fail
                      go_quiet (fail)
                      have HQ2 : Hid (Ge14 w y s0 s1 (V9.drewN nq) ∧ (∀ i, i < j → OkAt vs s0 s1 i) ∧ ∀ k, k < q + 1 → ¬ ((vs.getD k pla0).tier = (vs.getD j pla0).tier ∧ (vs.getD k pla0).slot = (vs.getD j pla0).slot)) := Lib.hid ⟨HQ.out.1.old ((KeptIn.refl _ _).drewN nq), HQ.out.2.1, fun k hk => by
                        by_cases e : k = q
                        · rw [e]; exact HNX.out
                        · exact HQ.out.2.2 k (by omega)⟩
                      clear HQ HNX HE f1 f2 e1 e2
                      go_wp2_with fail
                      go_roundw
                      case rel => exact ⟨q + 1, _, rfl, by omega, by go_num, HQ2⟩
                      case measure => simp only [RowKit.intOf]; omega
                  · have HNX : Hid (¬ ((vs.getD q pla0).tier = (vs.getD j pla0).tier ∧ (vs.getD q pla0).slot = (vs.getD j pla0).slot)) := Lib.hid (by rw [HE.out.1, HE.out.2.2.1]; exact fun h => h1 h.1)
                    have n1 : (tq == tj) = false := by rw [beq_eq_false_iff_ne]; exact h1
                    go_wp2_with fail
                    go_quiet (fail)
                    have HQ2 : Hid (Ge14 w y s0 s1 (V9.drewN nq) ∧ (∀ i, i < j → OkAt vs s0 s1 i) ∧ ∀ k, k < q + 1 → ¬ ((vs.getD k pla0).tier = (vs.getD j pla0).tier ∧ (vs.getD k pla0).slot = (vs.getD j pla0).slot)) := Lib.hid ⟨HQ.out.1.old ((KeptIn.refl _ _).drewN nq), HQ.out.2.1, fun k hk => by
                      by_cases e : k = q
                      · rw [e]; exact HNX.out
                      · exact HQ.out.2.2 k (by omega)⟩
                    clear HQ HNX HE f1 f2 e1 e2
                    go_wp2_with fail
                    go_roundw
                    case rel => exact ⟨q + 1, _, rfl, by omega, by go_num, HQ2⟩
                    case measure => simp only [RowKit.intOf]; omega
                · have q1 : ¬ (q : Int) < (j : Int) := by omega
                  have HJ2 : Hid (Ge14 w y s0 s1 V9 ∧ ∀ i, i < j + 1 → OkAt vs s0 s1 i) := Lib.hid ⟨HQ.out.1, fun i hi => by
                    by_cases e : i = j
                    · rw [e]
                      exact ⟨HPRE.out.1, HPRE.out.2.1, HPRE.out.2.2, fun k hk => HQ.out.2.2 k (by omega)⟩
                    · exact HQ.out.2.1 i (by omega)⟩
                  clear HQ HPRE
                  go_wp2_with fail
                  go_roundw
                  case rel => exact ⟨j + 1, _, rfl, by omega, by go_num, HJ2⟩
                  case measure => simp only [RowKit.intOf]; omega
          · have j1 : ¬ (0 : Int) < (j : Int) := by omega
            have j2 : decide ((0 : Int) < (j : Int)) = false := decide_eq_false j1
            have j3 : decide (0 < j) = false := decide_eq_false hj0
            have HPV : Hid (0 < j → (vs.getD (j - 1) pla0).ch < (vs.getD j pla0).ch) := Lib.hid fun h => absurd h hj0
            go_wp2_with fail
            refine wp_region_quiet_kept (by kernel_rfl) (by kernel_rfl) ?_
            repeat (go_big_quiet_step ((go_at_call 13; exact Calls.kept_of (HC.out _))))
            refine wpQuiet_nil ?_
            intro V hw'
            obtain ⟨⟨V2, hV⟩, hw''⟩ := hw'
            subst hw''
            clear l1 l2
            have HJ1 := Lib.hid (And.intro (HJ.out.1.old hV) HJ.out.2)
            have HPRE : Hid (GoodP (vs.getD j pla0) ∧ (vs.getD j pla0).slot < slotsOf s0 s1 (vs.getD j pla0).tier ∧ (0 < j → (vs.getD (j - 1) pla0).ch < (vs.getD j pla0).ch)) := Lib.hid ⟨by rw [HX.out]; exact HGD.out, by rw [HX.out]; simp only; rw [HSL.out]; exact hlo, HPV.out⟩
            clear HJ hV p3 g0 g1 g2 HC HGD HSL HPV hlo htI ht0
            go_wp2_with fail
            go_loopw [8] (fun k wr => ∃ (q : Nat) (V9 : World), V9 = wr ∧ q ≤ j ∧ k = .int .i64 (q : Int) ∧ Hid (Ge14 w y s0 s1 V9 ∧ (∀ i, i < j → OkAt vs s0 s1 i) ∧ ∀ k, k < q → ¬ ((vs.getD k pla0).tier = (vs.getD j pla0).tier ∧ (vs.getD k pla0).slot = (vs.getD j pla0).slot))) (fun k _ => j - (RowKit.intOf k).toNat)
            case atStart => exact ⟨0, _, rfl, Nat.zero_le _, rfl, Lib.hid ⟨HJ1.out.1, HJ1.out.2, fun k hk => absurd hk (Nat.not_lt_zero _)⟩⟩
            case round =>
              obtain ⟨q, V9, rfl, hq, rfl, HQ⟩ := hrel
              clear HJ1
              have q0 : (0 : Int) ≤ (q : Int) := by omega
              by_cases hqj : q < j
              · have q1 : (q : Int) < (j : Int) := by omega
                have q2 : (q : Int) < (n : Int) := by omega
                have hb9 := HQ.out.1.1.block b2 HCC.out.2.2.1
                have f1 := (World.cell?_of_block (a := ⟨b2, of2 + j * 2, none⟩) hb9).trans (HCC.out.2.2.2 j HJL.out).1
                have f2 := (World.cell?_of_block (a := ⟨b2, of2 + j * 2 + 1, none⟩) hb9).trans (HCC.out.2.2.2 j HJL.out).2
                have e1 := (World.cell?_of_block (a := ⟨b2, of2 + q * 2, none⟩) hb9).trans (HCC.out.2.2.2 q (by have := HJL.out; omega)).1
                have e2 := (World.cell?_of_block (a := ⟨b2, of2 + q * 2 + 1, none⟩) hb9).trans (HCC.out.2.2.2 q (by have := HJL.out; omega)).2
                obtain ⟨tq, htq⟩ : ∃ tq, (vs.getD q pla0).tier = tq := ⟨_, rfl⟩
                obtain ⟨sq, hsq⟩ : ∃ sq, (vs.getD q pla0).slot = sq := ⟨_, rfl⟩
                obtain ⟨tj, htj⟩ : ∃ tj, (vs.getD j pla0).tier = tj := ⟨_, rfl⟩
                obtain ⟨sj, hsj⟩ : ∃ sj, (vs.getD j pla0).slot = sj := ⟨_, rfl⟩
                rw [htq] at e1
                rw [hsq] at e2
                rw [htj] at f1
                rw [hsj] at f2
                have HE := Lib.hid (And.intro htq (And.intro hsq (And.intro htj hsj)))
                clear hb9 htq hsq htj hsj
                by_cases h1 : tq = tj
                · by_cases h2 : sq = sj
                  · have HF : Hid (R = false) := Lib.hid (HNO.out fun h => h.2.2.2 q hqj ⟨by rw [HE.out.1, HE.out.2.2.1, h1], by rw [HE.out.2.1, HE.out.2.2.2, h2]⟩)
                    subst h1 h2
                    go_wp2_with fail
                    go_quiet (fail)
                    go_wp2_with fail
                    go_ret
                    rw [HF.out]
                    exact ⟨rfl, HQ.out.1.1.drewN _⟩
                  · have HNX : Hid (¬ ((vs.getD q pla0).tier = (vs.getD j pla0).tier ∧ (vs.getD q pla0).slot = (vs.getD j pla0).slot)) := Lib.hid (by rw [HE.out.2.1, HE.out.2.2.2]; exact fun h => h2 h.2)
                    have n1 : (sq == sj) = false := by rw [beq_eq_false_iff_ne]; exact h2
                    subst h1
                    go_wp2_with fail
                    go_quiet (fail)
                    have HQ2 : Hid (Ge14 w y s0 s1 (V9.drewN nq) ∧ (∀ i, i < j → OkAt vs s0 s1 i) ∧ ∀ k, k < q + 1 → ¬ ((vs.getD k pla0).tier = (vs.getD j pla0).tier ∧ (vs.getD k pla0).slot = (vs.getD j pla0).slot)) := Lib.hid ⟨HQ.out.1.old ((KeptIn.refl _ _).drewN nq), HQ.out.2.1, fun k hk => by
                      by_cases e : k = q
                      · rw [e]; exact HNX.out
                      · exact HQ.out.2.2 k (by omega)⟩
                    clear HQ HNX HE f1 f2 e1 e2
                    go_wp2_with fail
                    go_roundw
                    case rel => exact ⟨q + 1, _, rfl, by omega, by go_num, HQ2⟩
                    case measure => simp only [RowKit.intOf]; omega
                · have HNX : Hid (¬ ((vs.getD q pla0).tier = (vs.getD j pla0).tier ∧ (vs.getD q pla0).slot = (vs.getD j pla0).slot)) := Lib.hid (by rw [HE.out.1, HE.out.2.2.1]; exact fun h => h1 h.1)
                  have n1 : (tq == tj) = false := by rw [beq_eq_false_iff_ne]; exact h1
                  go_wp2_with fail
                  go_quiet (fail)
                  have HQ2 : Hid (Ge14 w y s0 s1 (V9.drewN nq) ∧ (∀ i, i < j → OkAt vs s0 s1 i) ∧ ∀ k, k < q + 1 → ¬ ((vs.getD k pla0).tier = (vs.getD j pla0).tier ∧ (vs.getD k pla0).slot = (vs.getD j pla0).slot)) := Lib.hid ⟨HQ.out.1.old ((KeptIn.refl _ _).drewN nq), HQ.out.2.1, fun k hk => by
                    by_cases e : k = q
                    · rw [e]; exact HNX.out
                    · exact HQ.out.2.2 k (by omega)⟩
                  clear HQ HNX HE f1 f2 e1 e2
                  go_wp2_with fail
                  go_roundw
                  case rel => exact ⟨q + 1, _, rfl, by omega, by go_num, HQ2⟩
                  case measure => simp only [RowKit.intOf]; omega
              · have q1 : ¬ (q : Int) < (j : Int) := by omega
                have HJ2 : Hid (Ge14 w y s0 s1 V9 ∧ ∀ i, i < j + 1 → OkAt vs s0 s1 i) := Lib.hid ⟨HQ.out.1, fun i hi => by
                  by_cases e : i = j
                  · rw [e]
                    exact ⟨HPRE.out.1, HPRE.out.2.1, HPRE.out.2.2, fun k hk => HQ.out.2.2 k (by omega)⟩
                  · exact HQ.out.2.1 i (by omega)⟩
                clear HQ HPRE
                go_wp2_with fail
                go_roundw
                case rel => exact ⟨j + 1, _, rfl, by omega, by go_num, HJ2⟩
                case measure => simp only [RowKit.intOf]; omega
        · have l1 : sl ≤ (s : Int) := by omega
          have l2 : decide (sl ≤ (s : Int)) = true := decide_eq_true l1
          have HF : Hid (R = false) := Lib.hid (HNO.out fun h => hlo (by have h2 := h.2.1; rw [HX.out] at h2; simp only at h2; rw [HSL.out] at h2; exact h2))
          go_wp2_with fail
          refine wp_region_quiet_kept (by kernel_rfl) (by kernel_rfl) ?_
          repeat (go_big_quiet_step ((go_at_call 13; exact Calls.kept_of (HC.out _))))
          refine wpQuiet_nil ?_
          intro V hw'
          obtain ⟨⟨V2, hV⟩, hw''⟩ := hw'
          subst hw''
          clear g0 g1 g2 p3
          go_wp2_with fail
          go_ret
          rw [HF.out]
          exact ⟨rfl, HJ.out.1.1.go hV⟩
      · have HF : Hid (R = false) := Lib.hid (HNO.out fun h => hg (by rw [← HX.out]; exact h.1))
        rw [decide_eq_false hg] at HC
        obtain ⟨ch, tier, slot⟩ := x
        unfold spotV at HC
        simp only at HC g0 g1 g2
        clear hg
        go_wp2_with fail
        refine wp_region_quiet_kept (by kernel_rfl) (by kernel_rfl) ?_
        repeat (go_big_quiet_step ((go_at_call 13; exact Calls.kept_of (HC.out _))))
        refine wpQuiet_nil ?_
        intro V hw'
        obtain ⟨⟨V2, hV⟩, hw''⟩ := hw'
        subst hw''
        clear g0 g1 g2
        go_wp2_with fail
        go_ret
        rw [HF.out]
        exact ⟨rfl, HJ.out.1.1.go hV⟩
    · have d1 : ¬ (j : Int) < (n : Int) := by omega
      have HE : Hid (R = true ∧ KeptIn (· < w.heap.size) w W) := Lib.hid ⟨HR.out.symm.trans (okL_iff.2 fun i hi => HJ.out.2 i (by rw [H.out.2.2] at hi; omega)), HJ.out.1.1⟩
      clear HJ
      go_wp2_with fail
      go_ret
      rw [HE.out.1]
      exact ⟨rfl, HE.out.2⟩

end Go.Proofs.Ytdbanlifneomgaa
