import Derived.Test.YtdbanlifneomgaaM3
import Derived.Test.YtdbanlifneomgaaQk13L
import Derived.Deep.RegionHeld3
import Derived.Deep.Cut
import Derived.Deep.CutRange
import Derived.Deep.CutBlock
import Derived.Test.YtdbanlifneomgaaPh14L
/- Places: the document's Good. -/
set_option linter.unusedVariables false
namespace Go.Proofs.Ytdbanlifneomgaa
open Go.RowKit

/-- Places' chunks in memory; places' spots in memory. -/
structure IsCs (W : World) (a : Option Addr) (vs : List Pla) : Prop where
  len : vs.length ≤ maxLen
  cells : 0 < vs.length → ∃ b off, a = some ⟨b, off, none⟩ ∧ b < W.heap.size ∧ ∀ i, i < vs.length → W.cell? ⟨b, off + i, none⟩ = some (.int .i64 (vs.getD i pla0).ch)
structure IsSs (W : World) (a : Option Addr) (vs : List Pla) : Prop where
  len : vs.length ≤ maxLen
  cells : 0 < vs.length → ∃ b off, a = some ⟨b, off, none⟩ ∧ b < W.heap.size ∧ ∀ i, i < vs.length → W.cell? ⟨b, off + i * 2, none⟩ = some (.int .i64 (vs.getD i pla0).tier) ∧ W.cell? ⟨b, off + i * 2 + 1, none⟩ = some (.int .i64 (vs.getD i pla0).slot)
theorem IsCs.old {W W' : World} {a : Option Addr} {vs : List Pla} (h : IsCs W a vs) (hk : KeptIn (· < W.heap.size) W W') : IsCs W' a vs :=
  ⟨h.len, fun hp => by
    obtain ⟨b, off, e, hb, hc⟩ := h.cells hp
    exact ⟨b, off, e, Nat.lt_of_lt_of_le hb hk.size, fun i hi => (World.cell?_of_block (a := ⟨b, off + i, none⟩) (hk.block b hb)).trans (hc i hi)⟩⟩
theorem IsSs.old {W W' : World} {a : Option Addr} {vs : List Pla} (h : IsSs W a vs) (hk : KeptIn (· < W.heap.size) W W') : IsSs W' a vs :=
  ⟨h.len, fun hp => by
    obtain ⟨b, off, e, hb, hc⟩ := h.cells hp
    exact ⟨b, off, e, Nat.lt_of_lt_of_le hb hk.size, fun i hi => ⟨(World.cell?_of_block (a := ⟨b, off + i * 2, none⟩) (hk.block b hb)).trans (hc i hi).1, (World.cell?_of_block (a := ⟨b, off + i * 2 + 1, none⟩) (hk.block b hb)).trans (hc i hi).2⟩⟩⟩

/-- What stands in the loops. -/
def Ge14 (w : World) (y : Nat) (s0 s1 : Int) (W : World) : Prop := KeptIn (· < w.heap.size) w W ∧ BoxW2 y s0 s1 W
theorem Ge14.old {w W W' : World} {y : Nat} {s0 s1 : Int} (h : Ge14 w y s0 s1 W) (hk : KeptIn (· < W.heap.size) W W') : Ge14 w y s0 s1 W' := ⟨h.1.go hk, h.2.kept hk h.2.lt⟩


set_option maxRecDepth 100000 in
set_option maxHeartbeats 4000000 in
theorem r14Good (a a' : Option Addr) (n cap cap' : Nat) (vs : List Pla) (s0 s1 : Int) (w : World) (h : IsCs w a vs) (h' : IsSs w a' vs) (hn : vs.length = n) (hl : n ≤ 100000) :
    Calls Try.prog 18 #[.slice a n cap, .slice a' n cap', .agg #[.int .i64 s0, .int .i64 s1]] w fun e w' => e = .returned (.bool (okL vs s0 s1)) ∧ KeptIn (· < w.heap.size) w w' := by
  obtain ⟨R, hR⟩ : ∃ R, okL vs s0 s1 = R := ⟨_, rfl⟩
  have HR := Lib.hid hR
  rw [hR]
  have H := Lib.hid (And.intro h (And.intro h' hn))
  obtain ⟨y, hy⟩ : ∃ y, w.heap.size = y := ⟨_, rfl⟩
  obtain ⟨W0, hW0⟩ : ∃ W0, w.alloc (.cells #[.int .i64 s0, .int .i64 s1] 52) = W0 := ⟨_, rfl⟩
  have HW := Lib.hid (And.intro hW0 hy)
  have hnI : (n : Int) ≤ 100000 := by omega
  have HJ0 : Hid (Ge14 w y s0 s1 W0 ∧ ∀ i, i < 0 → OkAt vs s0 s1 i) := Lib.hid ⟨⟨by rw [← hW0]; exact (KeptIn.refl _ w).alloc (fun _ h => h) _, by rw [← hW0, ← hy]; exact BoxW2.new w s0 s1⟩, fun i hi => absurd hi (Nat.not_lt_zero _)⟩
  clear h h' hn hR hW0 hy
  go_enter Try.func18, Try.ntmps18
  go_wp2_with fail
  rw [HW.out.1]
  simp only [HW.out.2]
  go_loopw [7, 8] (fun i _ wr => ∃ (j : Nat) (W : World), W = wr ∧ j ≤ n ∧ i = .int .i64 (j : Int) ∧ Hid (Ge14 w y s0 s1 W ∧ ∀ i, i < j → OkAt vs s0 s1 i)) (fun i _ _ => n - (RowKit.intOf i).toNat)
  case atStart => exact ⟨0, _, rfl, Nat.zero_le _, rfl, HJ0⟩
  case round =>
    obtain ⟨j, W, rfl, hj, rfl, HJ⟩ := hrel
    clear HJ0
    have d0 : (0 : Int) ≤ (j : Int) := by omega
    by_cases hlt : j < n
    · have d1 : (j : Int) < (n : Int) := by omega
      have hjl : j < vs.length := by rw [H.out.2.2]; exact hlt
      obtain ⟨b, off, rfl, hb, hc⟩ := H.out.1.cells (by omega)
      obtain ⟨b2, of2, rfl, hb2, hc2⟩ := H.out.2.1.cells (by omega)
      have HNO := Lib.hid fun (hx : ¬ OkAt vs s0 s1 j) => HR.out.symm.trans (okL_no hjl hx)
      have hkp : ∀ p : KW W, KeptIn (· < w.heap.size) w p.V := fun p => HJ.out.1.1.go p.hk
      obtain ⟨x, hx⟩ : ∃ x, vs.getD j pla0 = x := ⟨_, rfl⟩
      have HX := Lib.hid hx
      have g0 : ∀ p : KW W, p.V.cell? ⟨b, off + j, none⟩ = some (.int .i64 x.ch) := fun p => by rw [← hx]; exact (World.cell?_of_block (a := ⟨b, off + j, none⟩) ((hkp p).block b hb)).trans (hc j hjl)
      have g1 : ∀ p : KW W, p.V.cell? ⟨b2, of2 + j * 2, none⟩ = some (.int .i64 x.tier) := fun p => by rw [← hx]; exact (World.cell?_of_block (a := ⟨b2, of2 + j * 2, none⟩) ((hkp p).block b2 hb2)).trans (hc2 j hjl).1
      have g2 : ∀ p : KW W, p.V.cell? ⟨b2, of2 + j * 2 + 1, none⟩ = some (.int .i64 x.slot) := fun p => by rw [← hx]; exact (World.cell?_of_block (a := ⟨b2, of2 + j * 2 + 1, none⟩) ((hkp p).block b2 hb2)).trans (hc2 j hjl).2
      have HCC := Lib.hid (And.intro hb (And.intro hc (And.intro hb2 hc2)))
      have HKP := Lib.hid hkp
      have HJL := Lib.hid hjl
      clear hc hc2 hb hb2 hx hjl hkp
      have HC := Lib.hid fun (p : KW W) => r14Can x p.V
      by_cases hg : GoodP x
      · have HGD := Lib.hid hg
        rw [decide_eq_true hg] at HC
        obtain ⟨c0, t, s, rfl, -, -, ht, hs⟩ := goodP_nats hg
        unfold spotV at HC
        simp only at HC g0 g1 g2
        have htI : (t : Int) < 2 := by omega
        have ht0 : (0 : Int) ≤ (t : Int) := by omega
        obtain ⟨sl, hsl⟩ : ∃ sl, slotsOf s0 s1 (t : Int) = sl := ⟨_, rfl⟩
        have HSL := Lib.hid hsl
        have p3 : ∀ p : KW W, p.V.cell? ⟨y, t, none⟩ = some (.int .i64 sl) := fun p => by
          have := (HJ.out.1.2.kept p.hk HJ.out.1.2.lt).at ht
          rw [HSL.out] at this
          exact this
        clear hg hsl
        by_cases hlo : (s : Int) < sl
        · have l1 : ¬ sl ≤ (s : Int) := by omega
          have l2 : decide (sl ≤ (s : Int)) = false := decide_eq_false l1
          by_cases hj0 : 0 < j
          · have j1 : (0 : Int) < (j : Int) := by omega
            have j2 : decide ((0 : Int) < (j : Int)) = true := decide_eq_true j1
            have j3 : decide (0 < j) = true := decide_eq_true hj0
            have gq : ∀ p : KW W, p.V.cell? ⟨b, off + (j - 1), none⟩ = some (.int .i64 (vs.getD (j - 1) pla0).ch) := fun p => (World.cell?_of_block (a := ⟨b, off + (j - 1), none⟩) ((HKP.out p).block b HCC.out.1)).trans (HCC.out.2.1 (j - 1) (by have := HJL.out; omega))
            obtain ⟨cp, hcp⟩ : ∃ cp, (vs.getD (j - 1) pla0).ch = cp := ⟨_, rfl⟩
            rw [hcp] at gq
            have HCP := Lib.hid hcp
            clear hcp
            by_cases hle : (c0 : Int) ≤ cp
            · have HF : Hid (R = false) := Lib.hid (HNO.out fun h => by
                have h2 := h.2.2.1 hj0
                rw [HX.out, HCP.out] at h2
                simp only at h2
                omega)
              go_wp2_with fail
              refine wp_region_quiet_kept (by kernel_rfl) (by kernel_rfl) ?_
              repeat (go_big_quiet_step ((go_at_call 13; exact Calls.kept_of (HC.out _))))
              refine wpQuiet_nil ?_
              intro V hw'
              obtain ⟨⟨V2, hV⟩, hw''⟩ := hw'
              subst hw''
              clear g0 g1 g2 p3 gq
              go_wp2_with fail
              go_ret
              rw [HF.out]
              exact ⟨rfl, HJ.out.1.1.go hV⟩
            · have q1 : decide ((c0 : Int) ≤ cp) = false := decide_eq_false hle
              have HPV : Hid (0 < j → (vs.getD (j - 1) pla0).ch < (vs.getD j pla0).ch) := Lib.hid fun _ => by rw [HX.out, HCP.out]; simp only; omega
              go_wp2_with fail
              refine wp_region_quiet_kept (by kernel_rfl) (by kernel_rfl) ?_
              repeat (go_big_quiet_step ((go_at_call 13; exact Calls.kept_of (HC.out _))))
              refine wpQuiet_nil ?_
              intro V hw'
              obtain ⟨⟨V2, hV⟩, hw''⟩ := hw'
              subst hw''
              clear gq q1 hle l1 l2 HCP
              have HJ1 := Lib.hid (And.intro (HJ.out.1.old hV) HJ.out.2)
              have HPRE : Hid (GoodP (vs.getD j pla0) ∧ (vs.getD j pla0).slot < slotsOf s0 s1 (vs.getD j pla0).tier ∧ (0 < j → (vs.getD (j - 1) pla0).ch < (vs.getD j pla0).ch)) := Lib.hid ⟨by rw [HX.out]; exact HGD.out, by rw [HX.out]; simp only; rw [HSL.out]; exact hlo, HPV.out⟩
              clear HJ hV p3 g0 g1 g2 HC HGD HSL HPV hlo htI ht0
              go_wp2_with fail
              go_loopw [8] (fun k wr => ∃ (q : Nat) (V9 : World), V9 = wr ∧ q ≤ j ∧ k = .int .i64 (q : Int) ∧ Hid (Ge14 w y s0 s1 V9 ∧ (∀ i, i < j → OkAt vs s0 s1 i) ∧ ∀ k, k < q → ¬ ((vs.getD k pla0).tier = (vs.getD j pla0).tier ∧ (vs.getD k pla0).slot = (vs.getD j pla0).slot))) (fun k _ => j - (RowKit.intOf k).toNat)
              case atStart => exact ⟨0, _, rfl, Nat.zero_le _, rfl, Lib.hid ⟨HJ1.out.1, HJ1.out.2, fun k hk => absurd hk (Nat.not_lt_zero _)⟩⟩
              case round =>
                obtain ⟨q, V9, rfl, hq, rfl, HQ⟩ := hrel
                clear HJ1
                have q0 : (0 : Int) ≤ (q : Int) := by omega
                by_cases hqj : q < j
                · have q1 : (q : Int) < (j : Int) := by omega
                  have q2 : (q : Int) < (n : Int) := by omega
                  have hb9 := HQ.out.1.1.block b2 HCC.out.2.2.1
                  have f1 := (World.cell?_of_block (a := ⟨b2, of2 + j * 2, none⟩) hb9).trans (HCC.out.2.2.2 j HJL.out).1
                  have f2 := (World.cell?_of_block (a := ⟨b2, of2 + j * 2 + 1, none⟩) hb9).trans (HCC.out.2.2.2 j HJL.out).2
                  have e1 := (World.cell?_of_block (a := ⟨b2, of2 + q * 2, none⟩) hb9).trans (HCC.out.2.2.2 q (by have := HJL.out; omega)).1
                  have e2 := (World.cell?_of_block (a := ⟨b2, of2 + q * 2 + 1, none⟩) hb9).trans (HCC.out.2.2.2 q (by have := HJL.out; omega)).2
                  obtain ⟨tq, htq⟩ : ∃ tq, (vs.getD q pla0).tier = tq := ⟨_, rfl⟩
                  obtain ⟨sq, hsq⟩ : ∃ sq, (vs.getD q pla0).slot = sq := ⟨_, rfl⟩
                  obtain ⟨tj, htj⟩ : ∃ tj, (vs.getD j pla0).tier = tj := ⟨_, rfl⟩
                  obtain ⟨sj, hsj⟩ : ∃ sj, (vs.getD j pla0).slot = sj := ⟨_, rfl⟩
                  rw [htq] at e1
                  rw [hsq] at e2
                  rw [htj] at f1
                  rw [hsj] at f2
                  have HE := Lib.hid (And.intro htq (And.intro hsq (And.intro htj hsj)))
                  clear hb9 htq hsq htj hsj
                  by_cases h1 : tq = tj
                  · by_cases h2 : sq = sj
                    · have HF : Hid (R = false) := Lib.hid (HNO.out fun h => h.2.2.2 q hqj ⟨by rw [HE.out.1, HE.out.2.2.1, h1], by rw [HE.out.2.1, HE.out.2.2.2, h2]⟩)
                      subst h1 h2
                      go_wp2_with fail
                      go_quiet (fail)
                      go_wp2_with fail
                      go_ret
                      rw [HF.out]
                      exact ⟨rfl, HQ.out.1.1.drewN _⟩
                    · have HNX : Hid (¬ ((vs.getD q pla0).tier = (vs.getD j pla0).tier ∧ (vs.getD q pla0).slot = (vs.getD j pla0).slot)) := Lib.hid (by rw [HE.out.2.1, HE.out.2.2.2]; exact fun h => h2 h.2)
                      have n1 : (sq == sj) = false := by rw [beq_eq_false_iff_ne]; exact h2
                      subst h1
                      go_wp2_with fail
                      go_quiet (fail)
                      have HQ2 : Hid (Ge14 w y s0 s1 (V9.drewN nq) ∧ (∀ i, i < j → OkAt vs s0 s1 i) ∧ ∀ k, k < q + 1 → ¬ ((vs.getD k pla0).tier = (vs.getD j pla0).tier ∧ (vs.getD k pla0).slot = (vs.getD j pla0).slot)) := Lib.hid ⟨HQ.out.1.old ((KeptIn.refl _ _).drewN nq), HQ.out.2.1, fun k hk => by
                        by_cases e : k = q
                        · rw [e]; exact HNX.out
                        · exact HQ.out.2.2 k (by omega)⟩
                      clear HQ HNX HE f1 f2 e1 e2
                      go_wp2_with fail
                      go_roundw
                      case rel => exact ⟨q + 1, _, rfl, by omega, by go_num, HQ2⟩
                      case measure => simp only [RowKit.intOf]; omega
                  · have HNX : Hid (¬ ((vs.getD q pla0).tier = (vs.getD j pla0).tier ∧ (vs.getD q pla0).slot = (vs.getD j pla0).slot)) := Lib.hid (by rw [HE.out.1, HE.out.2.2.1]; exact fun h => h1 h.1)
                    have n1 : (tq == tj) = false := by rw [beq_eq_false_iff_ne]; exact h1
                    go_wp2_with fail
                    go_quiet (fail)
                    have HQ2 : Hid (Ge14 w y s0 s1 (V9.drewN nq) ∧ (∀ i, i < j → OkAt vs s0 s1 i) ∧ ∀ k, k < q + 1 → ¬ ((vs.getD k pla0).tier = (vs.getD j pla0).tier ∧ (vs.getD k pla0).slot = (vs.getD j pla0).slot)) := Lib.hid ⟨HQ.out.1.old ((KeptIn.refl _ _).drewN nq), HQ.out.2.1, fun k hk => by
                      by_cases e : k = q
                      · rw [e]; exact HNX.out
                      · exact HQ.out.2.2 k (by omega)⟩
                    clear HQ HNX HE f1 f2 e1 e2
                    go_wp2_with fail
                    go_roundw
                    case rel => exact ⟨q + 1, _, rfl, by omega, by go_num, HQ2⟩
                    case measure => simp only [RowKit.intOf]; omega
                · have q1 : ¬ (q : Int) < (j : Int) := by omega
                  have HJ2 : Hid (Ge14 w y s0 s1 V9 ∧ ∀ i, i < j + 1 → OkAt vs s0 s1 i) := Lib.hid ⟨HQ.out.1, fun i hi => by
                    by_cases e : i = j
                    · rw [e]
                      exact ⟨HPRE.out.1, HPRE.out.2.1, HPRE.out.2.2, fun k hk => HQ.out.2.2 k (by omega)⟩
                    · exact HQ.out.2.1 i (by omega)⟩
                  clear HQ HPRE
                  go_wp2_with fail
                  go_roundw
                  case rel => exact ⟨j + 1, _, rfl, by omega, by go_num, HJ2⟩
                  case measure => simp only [RowKit.intOf]; omega
          · have j1 : ¬ (0 : Int) < (j : Int) := by omega
            have j2 : decide ((0 : Int) < (j : Int)) = false := decide_eq_false j1
            have j3 : decide (0 < j) = false := decide_eq_false hj0
            have HPV : Hid (0 < j → (vs.getD (j - 1) pla0).ch < (vs.getD j pla0).ch) := Lib.hid fun h => absurd h hj0
            go_wp2_with fail
            refine wp_region_quiet_kept (by kernel_rfl) (by kernel_rfl) ?_
            repeat (go_big_quiet_step ((go_at_call 13; exact Calls.kept_of (HC.out _))))
            refine wpQuiet_nil ?_
            intro V hw'
            obtain ⟨⟨V2, hV⟩, hw''⟩ := hw'
            subst hw''
            clear l1 l2
            have HJ1 := Lib.hid (And.intro (HJ.out.1.old hV) HJ.out.2)
            have HPRE : Hid (GoodP (vs.getD j pla0) ∧ (vs.getD j pla0).slot < slotsOf s0 s1 (vs.getD j pla0).tier ∧ (0 < j → (vs.getD (j - 1) pla0).ch < (vs.getD j pla0).ch)) := Lib.hid ⟨by rw [HX.out]; exact HGD.out, by rw [HX.out]; simp only; rw [HSL.out]; exact hlo, HPV.out⟩
            clear HJ hV p3 g0 g1 g2 HC HGD HSL HPV hlo htI ht0
            go_wp2_with fail
            go_loopw [8] (fun k wr => ∃ (q : Nat) (V9 : World), V9 = wr ∧ q ≤ j ∧ k = .int .i64 (q : Int) ∧ Hid (Ge14 w y s0 s1 V9 ∧ (∀ i, i < j → OkAt vs s0 s1 i) ∧ ∀ k, k < q → ¬ ((vs.getD k pla0).tier = (vs.getD j pla0).tier ∧ (vs.getD k pla0).slot = (vs.getD j pla0).slot))) (fun k _ => j - (RowKit.intOf k).toNat)
            case atStart => exact ⟨0, _, rfl, Nat.zero_le _, rfl, Lib.hid ⟨HJ1.out.1, HJ1.out.2, fun k hk => absurd hk (Nat.not_lt_zero _)⟩⟩
            case round =>
              obtain ⟨q, V9, rfl, hq, rfl, HQ⟩ := hrel
              clear HJ1
              have q0 : (0 : Int) ≤ (q : Int) := by omega
              by_cases hqj : q < j
              · have q1 : (q : Int) < (j : Int) := by omega
                have q2 : (q : Int) < (n : Int) := by omega
                have hb9 := HQ.out.1.1.block b2 HCC.out.2.2.1
                have f1 := (World.cell?_of_block (a := ⟨b2, of2 + j * 2, none⟩) hb9).trans (HCC.out.2.2.2 j HJL.out).1
                have f2 := (World.cell?_of_block (a := ⟨b2, of2 + j * 2 + 1, none⟩) hb9).trans (HCC.out.2.2.2 j HJL.out).2
                have e1 := (World.cell?_of_block (a := ⟨b2, of2 + q * 2, none⟩) hb9).trans (HCC.out.2.2.2 q (by have := HJL.out; omega)).1
                have e2 := (World.cell?_of_block (a := ⟨b2, of2 + q * 2 + 1, none⟩) hb9).trans (HCC.out.2.2.2 q (by have := HJL.out; omega)).2
                obtain ⟨tq, htq⟩ : ∃ tq, (vs.getD q pla0).tier = tq := ⟨_, rfl⟩
                obtain ⟨sq, hsq⟩ : ∃ sq, (vs.getD q pla0).slot = sq := ⟨_, rfl⟩
                obtain ⟨tj, htj⟩ : ∃ tj, (vs.getD j pla0).tier = tj := ⟨_, rfl⟩
                obtain ⟨sj, hsj⟩ : ∃ sj, (vs.getD j pla0).slot = sj := ⟨_, rfl⟩
                rw [htq] at e1
                rw [hsq] at e2
                rw [htj] at f1
                rw [hsj] at f2
                have HE := Lib.hid (And.intro htq (And.intro hsq (And.intro htj hsj)))
                clear hb9 htq hsq htj hsj
                by_cases h1 : tq = tj
                · by_cases h2 : sq = sj
                  · have HF : Hid (R = false) := Lib.hid (HNO.out fun h => h.2.2.2 q hqj ⟨by rw [HE.out.1, HE.out.2.2.1, h1], by rw [HE.out.2.1, HE.out.2.2.2, h2]⟩)
                    subst h1 h2
                    go_wp2_with fail
                    go_quiet (fail)
                    go_wp2_with fail
                    go_ret
                    rw [HF.out]
                    exact ⟨rfl, HQ.out.1.1.drewN _⟩
                  · have HNX : Hid (¬ ((vs.getD q pla0).tier = (vs.getD j pla0).tier ∧ (vs.getD q pla0).slot = (vs.getD j pla0).slot)) := Lib.hid (by rw [HE.out.2.1, HE.out.2.2.2]; exact fun h => h2 h.2)
                    have n1 : (sq == sj) = false := by rw [beq_eq_false_iff_ne]; exact h2
                    subst h1
                    go_wp2_with fail
                    go_quiet (fail)
                    have HQ2 : Hid (Ge14 w y s0 s1 (V9.drewN nq) ∧ (∀ i, i < j → OkAt vs s0 s1 i) ∧ ∀ k, k < q + 1 → ¬ ((vs.getD k pla0).tier = (vs.getD j pla0).tier ∧ (vs.getD k pla0).slot = (vs.getD j pla0).slot)) := Lib.hid ⟨HQ.out.1.old ((KeptIn.refl _ _).drewN nq), HQ.out.2.1, fun k hk => by
                      by_cases e : k = q
                      · rw [e]; exact HNX.out
                      · exact HQ.out.2.2 k (by omega)⟩
                    clear HQ HNX HE f1 f2 e1 e2
                    go_wp2_with fail
                    go_roundw
                    case rel => exact ⟨q + 1, _, rfl, by omega, by go_num, HQ2⟩
                    case measure => simp only [RowKit.intOf]; omega
                · have HNX : Hid (¬ ((vs.getD q pla0).tier = (vs.getD j pla0).tier ∧ (vs.getD q pla0).slot = (vs.getD j pla0).slot)) := Lib.hid (by rw [HE.out.1, HE.out.2.2.1]; exact fun h => h1 h.1)
                  have n1 : (tq == tj) = false := by rw [beq_eq_false_iff_ne]; exact h1
                  go_wp2_with fail
                  go_quiet (fail)
                  have HQ2 : Hid (Ge14 w y s0 s1 (V9.drewN nq) ∧ (∀ i, i < j → OkAt vs s0 s1 i) ∧ ∀ k, k < q + 1 → ¬ ((vs.getD k pla0).tier = (vs.getD j pla0).tier ∧ (vs.getD k pla0).slot = (vs.getD j pla0).slot)) := Lib.hid ⟨HQ.out.1.old ((KeptIn.refl _ _).drewN nq), HQ.out.2.1, fun k hk => by
                    by_cases e : k = q
                    · rw [e]; exact HNX.out
                    · exact HQ.out.2.2 k (by omega)⟩
                  clear HQ HNX HE f1 f2 e1 e2
                  go_wp2_with fail
                  go_roundw
                  case rel => exact ⟨q + 1, _, rfl, by omega, by go_num, HQ2⟩
                  case measure => simp only [RowKit.intOf]; omega
              · have q1 : ¬ (q : Int) < (j : Int) := by omega
                have HJ2 : Hid (Ge14 w y s0 s1 V9 ∧ ∀ i, i < j + 1 → OkAt vs s0 s1 i) := Lib.hid ⟨HQ.out.1, fun i hi => by
                  by_cases e : i = j
                  · rw [e]
                    exact ⟨HPRE.out.1, HPRE.out.2.1, HPRE.out.2.2, fun k hk => HQ.out.2.2 k (by omega)⟩
                  · exact HQ.out.2.1 i (by omega)⟩
                clear HQ HPRE
                go_wp2_with fail
                go_roundw
                case rel => exact ⟨j + 1, _, rfl, by omega, by go_num, HJ2⟩
                case measure => simp only [RowKit.intOf]; omega
        · have l1 : sl ≤ (s : Int) := by omega
          have l2 : decide (sl ≤ (s : Int)) = true := decide_eq_true l1
          have HF : Hid (R = false) := Lib.hid (HNO.out fun h => hlo (by have h2 := h.2.1; rw [HX.out] at h2; simp only at h2; rw [HSL.out] at h2; exact h2))
          go_wp2_with fail
          refine wp_region_quiet_kept (by kernel_rfl) (by kernel_rfl) ?_
          repeat (go_big_quiet_step ((go_at_call 13; exact Calls.kept_of (HC.out _))))
          refine wpQuiet_nil ?_
          intro V hw'
          obtain ⟨⟨V2, hV⟩, hw''⟩ := hw'
          subst hw''
          clear g0 g1 g2 p3
          go_wp2_with fail
          go_ret
          rw [HF.out]
          exact ⟨rfl, HJ.out.1.1.go hV⟩
      · have HF : Hid (R = false) := Lib.hid (HNO.out fun h => hg (by rw [← HX.out]; exact h.1))
        rw [decide_eq_false hg] at HC
        obtain ⟨ch, tier, slot⟩ := x
        unfold spotV at HC
        simp only at HC g0 g1 g2
        clear hg
        go_wp2_with fail
        refine wp_region_quiet_kept (by kernel_rfl) (by kernel_rfl) ?_
        repeat (go_big_quiet_step ((go_at_call 13; exact Calls.kept_of (HC.out _))))
        refine wpQuiet_nil ?_
        intro V hw'
        obtain ⟨⟨V2, hV⟩, hw''⟩ := hw'
        subst hw''
        clear g0 g1 g2
        go_wp2_with fail
        go_ret
        rw [HF.out]
        exact ⟨rfl, HJ.out.1.1.go hV⟩
    · have d1 : ¬ (j : Int) < (n : Int) := by omega
      have HE : Hid (R = true ∧ KeptIn (· < w.heap.size) w W) := Lib.hid ⟨HR.out.symm.trans (okL_iff.2 fun i hi => HJ.out.2 i (by rw [H.out.2.2] at hi; omega)), HJ.out.1.1⟩
      clear HJ
      go_wp2_with fail
      go_ret
      rw [HE.out.1]
      exact ⟨rfl, HE.out.2⟩

end Go.Proofs.Ytdbanlifneomgaa
/- Layer 14: '==' of places; awake. -/
set_option linter.unusedVariables false
namespace Go.Proofs.Ytdbanlifneomgaa
open Go.RowKit

theorem eqInSpD (d : Nat) (a1 a2 b1 b2 : Int) (w : World) : (Op.equalIn (d + 2) 45 (.agg #[.int .i64 a1, .int .i64 a2]) (.agg #[.int .i64 b1, .int .i64 b2])).run Try.prog w = .ok (decide (a1 = b1) && decide (a2 = b2)) w := by
  have u3 := Try.underlying3
  have hS : Try.prog.underlying 45 = some (.struct (Try.prog.fieldsOf 45)) := by kernel_rfl
  have hp : Try.prog.stoodInHeld 45 = false := by kernel_rfl
  rw [run_equalIn_agg w (d + 1) 45 _ _ hS hp]
  simp only [Program.fieldsOf, Try.underlying45]
  go_simp
  by_cases h1 : a1 = b1 <;> by_cases h2 : a2 = b2 <;> simp [h1, h2]

/-- '==' of them. -/
theorem eqPl (a b : Pla) (w : World) : (binOp .eql 47 (plaV a) (plaV b)).run Try.prog w = .ok (.bool (decide (a = b))) w := by
  have u3 := Try.underlying3
  have hS : Try.prog.underlying 47 = some (.struct (Try.prog.fieldsOf 47)) := by kernel_rfl
  have hp : Try.prog.stoodInHeld 47 = false := by kernel_rfl
  have hd : decide (a = b) = (decide (a.ch = b.ch) && (decide (a.tier = b.tier) && decide (a.slot = b.slot))) := by
    rw [← Bool.decide_and, ← Bool.decide_and]
    exact decide_eq_decide.2 (by
      obtain ⟨a1, a2, a3⟩ := a
      obtain ⟨b1, b2, b3⟩ := b
      simp)
  rw [hd]
  simp only [plaV]
  rw [run_eql_struct, show (10000 : Nat) = 9999 + 1 from rfl, run_equalIn_agg w 9999 47 _ _ hS hp]
  simp only [Program.fieldsOf, Try.underlying47]
  have hin := fun w => eqInSpD 9997 a.tier a.slot b.tier b.slot w
  simp only [show (9997 : Nat) + 2 = 9999 from rfl] at hin
  simp only [Op.eqFields]
  go_simp
  by_cases h1 : a.ch = b.ch <;> by_cases h2 : a.tier = b.tier <;> by_cases h3 : a.slot = b.slot <;> simp [h1, h2, h3]
theorem neqPl (a b : Pla) (w : World) : (binOp .neq 47 (plaV a) (plaV b)).run Try.prog w = .ok (.bool (!decide (a = b))) w := by
  have h := eqPl a b w
  simp only [plaV] at h ⊢
  rw [run_eql_struct] at h
  rw [run_neq_struct]
  cases hq : (Op.equalIn 10000 47 (.agg #[.int .i64 a.ch, .int .i64 a.tier, .int .i64 a.slot]) (.agg #[.int .i64 b.ch, .int .i64 b.tier, .int .i64 b.slot])).run Try.prog w with
  | ok x w' =>
    rw [hq] at h
    simp only [Result.andThen_ok, Result.ok.injEq, Value.bool.injEq] at h
    rw [h.1, h.2]
    rfl
  | _ => rw [hq] at h; simp [Result.andThen] at h

def pla5 : Pla := ⟨5, 1, 2⟩
theorem good5 : GoodP pla5 := by decide
theorem key5 : keyP pla5 = 8589934597 := rfl
theorem val5 : valP pla5 = 513 := rfl
theorem badP0 : ¬ GoodP pla0 := by decide
theorem isLs_one (W : World) (x : Pla) : IsLs (W.alloc (.cells #[.int .i64 x.ch, .int .i64 x.tier, .int .i64 x.slot] 47)) (some ⟨W.heap.size, 0, none⟩) [x] := by
  refine ⟨by unfold maxLen; simp, fun _ => ⟨_, _, rfl, by simp, fun i hi => ?_⟩⟩
  obtain rfl : i = 0 := by simpa using hi
  have h := BoxPl.new W x
  exact ⟨h.c0, h.c1, h.c2⟩

set_option maxHeartbeats 1000000 in
theorem awake14 (w : World) : Calls Try.prog 11 #[] w fun e w' => e = .returned (.bool true) ∧ KeptIn (· < w.heap.size) w w' := by
  have HP := Lib.hid fun W => plPair pla5 W
  have HP0 := Lib.hid fun W => plPair pla0 W
  have HR := Lib.hid fun W => plRead 8589934597 513 (by decide) (by decide) W
  unfold PairP at HP HP0
  rw [if_pos good5, key5, val5] at HP
  rw [if_neg badP0] at HP0
  rw [← key5, ← val5, readPl_pair good5, key5, val5] at HR
  unfold ReadP at HR
  simp only [Option.getD_some, Option.isSome_some] at HR
  simp only [plaV, pairV, pla5, pla0] at HP HP0 HR
  have HE := Lib.hid fun W => eqPl pla5 pla5 W
  simp only [plaV, pla5, decide_true] at HE
  go_enter Try.func11, Try.ntmps11
  go_wp2_with fail
  refine (HP.out _).mono ?_
  rintro e V1 ⟨rfl, k1⟩
  have y1 : BoxPl w.heap.size pla5 V1 := (BoxPl.new w pla5).kept k1 (BoxPl.new w pla5).lt
  have HK1 : Hid (KeptIn (· < w.heap.size) w V1) := Lib.hid (((KeptIn.refl _ w).alloc (fun _ h => h) _).go k1)
  clear k1
  have HY1 := Lib.hid y1
  clear y1
  go_wp2_with fail
  refine (HR.out _).mono ?_
  rintro e V2 ⟨rfl, k2⟩
  have y2 : BoxPl w.heap.size pla5 V2 := HY1.out.kept (((KeptIn.refl _ V1).alloc (fun _ h => h) _).go k2) HY1.out.lt
  have p2 : BoxP V1.heap.size 8589934597 513 V2 := (BoxP.new V1 8589934597 513).kept k2 (BoxP.new V1 8589934597 513).lt
  have HK2 : Hid (KeptIn (· < w.heap.size) w V2) := Lib.hid (HK1.out.go (((KeptIn.refl _ V1).alloc (fun _ h => h) _).go k2))
  have HY2 := Lib.hid (And.intro y2 p2)
  clear k2 y2 p2
  go_wp2_with fail
  refine (HP0.out _).mono ?_
  rintro e V3 ⟨rfl, k3⟩
  obtain ⟨V4, hV4⟩ : ∃ V4, V3.alloc (.cells #[.int .u64 0, .int .u64 0] 50) = V4 := ⟨_, rfl⟩
  have a3 : KeptIn (· < V3.heap.size) V3 V4 := by rw [← hV4]; exact (KeptIn.refl _ V3).alloc (fun _ h => h) _
  have y3 := (HY2.out.1.kept (((KeptIn.refl _ V2).alloc (fun _ h => h) _).go k3) HY2.out.1.lt)
  have p3 := (HY2.out.2.kept (((KeptIn.refl _ V2).alloc (fun _ h => h) _).go k3) HY2.out.2.lt)
  have r3 : BoxPl V2.heap.size pla5 V3 := (BoxPl.new V2 pla5).kept k3 (BoxPl.new V2 pla5).lt
  have HK3 : Hid (KeptIn (· < w.heap.size) w V4) := Lib.hid ((HK2.out.go (((KeptIn.refl _ V2).alloc (fun _ h => h) _).go k3)).go a3)
  have y4 := y3.kept a3 y3.lt
  have p4 := p3.kept a3 p3.lt
  have r4 := r3.kept a3 r3.lt
  have HY4 := Lib.hid y4
  have c0 := y4.c0
  have c1 := y4.c1
  have c2 := y4.c2
  have d0 := r4.c0
  have d1 := r4.c1
  have d2 := r4.c2
  have e0 := p4.c0
  have e1 := p4.c1
  have HV4 := Lib.hid hV4
  clear y3 p3 r3 y4 p4 r4 a3 k3 hV4
  unfold pla5 at c0 c1 c2 d0 d1 d2
  simp only at c0 c1 c2 d0 d1 d2
  have q1 := HE.out
  go_upto_region 5 with fail
  rw [HV4.out]
  go_wp2_with fail
  refine (plGood _ 1 1 [pla5] 1 3 _ (isLs_one V4 pla5) rfl (by decide)).mono ?_
  rw [show okL [pla5] 1 3 = true by decide]
  rintro e V5 ⟨rfl, k5⟩
  have y5 := HY4.out.kept (((KeptIn.refl _ V4).alloc (fun _ h => h) _).go k5) HY4.out.lt
  have HK5 : Hid (KeptIn (· < w.heap.size) w V5) := Lib.hid (HK3.out.go (((KeptIn.refl _ V4).alloc (fun _ h => h) _).go k5))
  clear c0 c1 c2 d0 d1 d2 e0 e1 k5 q1
  have c0 := y5.c0
  have c1 := y5.c1
  have c2 := y5.c2
  unfold pla5 at c0 c1 c2
  simp only at c0 c1 c2
  clear y5
  go_wp2_with fail
  refine (plGood _ 1 1 [pla5] 9 2 _ (isLs_one V5 pla5) rfl (by decide)).mono ?_
  rw [show okL [pla5] 9 2 = false by decide]
  rintro e V6 ⟨rfl, k6⟩
  go_wp2_with fail
  go_ret
  exact ⟨rfl, HK5.out.go (((KeptIn.refl _ V5).alloc (fun _ h => h) _).go k6)⟩

end Go.Proofs.Ytdbanlifneomgaa
