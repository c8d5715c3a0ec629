import Derived.Test.YtlnlgapjlekehaaTq8K
import Derived.Test.YtlnlgapjlekehaaAm8K
import Derived.Deep.Cut
/- The laws' awake of layer 8. -/
set_option linter.unusedVariables false
namespace Go.Proofs.Ytlnlgapjlekehaa
open Go.RowKit

/-- The Shelf behind j changes. -/
def AwI (w : World) (s j : Nat) (W : World) : Prop := ∃ D, IsSh W s 100 (awN j) D ∧ (∀ k, D k → w.heap.size ≤ k) ∧ KeptIn (· < w.heap.size) w W

theorem aw_step (w : World) (s j : Nat) (hj : j < 16) (W : World) (h : AwI w s j W) : Calls Try.prog 8 #[pgV s, .int .i64 (awR j : Int), .int .u64 ((3 * j : Nat) : Int), .int .u64 (j : Int)] W fun e w' => e = .returned (.tuple #[.int .i64 (awR (j + 1) : Int), .int .i64 0]) ∧ AwI w s (j + 1) w' := by
  obtain ⟨D, h1, h2, h3⟩ := h
  have hl := aw_len j (by omega)
  refine (trPut h1 (awR j) (3 * j) j (by omega) (by omega) (awW j) (aw_desc j hj) (by simp [awW]) (by omega)).mono ?_
  intro e w' hR
  rw [show min 100 511 = 100 from rfl, aw_put j hj] at hR
  obtain ⟨⟨p, er, rfl, hm⟩, D', a1, a2, a3⟩ := hR
  obtain ⟨rfl, rfl⟩ : p = awR (j + 1) ∧ er = 0 := hm
  have hz := h3.size
  refine ⟨rfl, D', a1, fun k hk => ?_, h3.trans (a3.mono fun k hk => ⟨by omega, ?_⟩)⟩
  · rcases a2 k hk with h | h
    · exact h2 k h
    · omega
  · have := h2 s h1.ds; omega

theorem aw_num (j : Nat) (h : j < 16) : IntKind.u64.wrap (3 * (j : Int)) = ((3 * j : Nat) : Int) ∧ IntKind.u64.wrap (j : Int) = (j : Int) ∧ wrap64 (3 * (j : Int)) = ((3 * j : Nat) : Int) ∧ (0 : Int) ≤ (j : Int) ∧ (j : Int) < 16 := by
  refine ⟨by rw [IntKind.wrap_u64]; omega, by rw [IntKind.wrap_u64]; omega, by unfold wrap64; omega, by omega, by omega⟩

set_option maxRecDepth 100000 in
set_option maxHeartbeats 4000000 in
theorem awake8 (w : World) : Calls Try.prog 7 #[] w fun e w' => e = .returned (.bool true) ∧ KeptIn (· < w.heap.size) w w' := by
  obtain ⟨W, hW⟩ : ∃ W, w.alloc (.cells #[.slice none 0 0, .int .i64 100] 28) = W := ⟨_, rfl⟩
  obtain ⟨h1, _⟩ := tm_new w 100 (by decide) W hW.symm
  have H0 : Hid (AwI w w.heap.size 0 W) := Lib.hid ⟨_, h1, fun k hk => Nat.le_of_eq hk.symm, by rw [← hW]; exact (KeptIn.refl _ w).alloc (fun _ h => h) _⟩
  obtain ⟨s, hs⟩ : ∃ s, w.heap.size = s := ⟨_, rfl⟩
  rw [hs] at H0
  have HW := Lib.hid hW
  have HS := Lib.hid hs
  clear hW hs h1
  go_enter Try.func7, Try.ntmps7
  go_wp2_with fail
  rw [HW.out]
  try simp only [HS.out]
  go_loopw [2, 3, 4, 5] (fun r i _ _ wr => ∃ (j : Nat) (V : World), V = wr ∧ j ≤ 16 ∧ i = .int .i64 (j : Int) ∧ r = .int .i64 (awR j : Int) ∧ Hid (AwI w s j V)) (fun _ i _ _ _ => 16 - (intOf i).toNat)
  case atStart => exact ⟨0, _, rfl, by omega, rfl, rfl, H0⟩
  case round =>
    obtain ⟨j, V, rfl, hj, rfl, rfl, HJ⟩ := hrel
    clear H0
    by_cases hlt : j < 16
    · obtain ⟨a1, a2, a3, a4, a5⟩ := aw_num j hlt
      have HC := Lib.hid (aw_step w s j hlt V HJ.out)
      unfold pgV at HC
      obtain ⟨r, hr⟩ : ∃ r, awR j = r := ⟨_, rfl⟩
      obtain ⟨r2, hr2⟩ : ∃ r, awR (j + 1) = r := ⟨_, rfl⟩
      obtain ⟨q, hq⟩ : ∃ q, 3 * j = q := ⟨_, rfl⟩
      rw [hr, hr2, hq] at HC
      rw [hq] at a1 a3
      rw [hr]
      have HR := Lib.hid hr2
      clear hr hr2 hq HJ
      go_wp2_with (go_at_call 8; refine HC.out.mono ?_; rintro e V2 ⟨rfl, hA⟩; have HA := Lib.hid hA; clear hA)
      go_roundw
      case rel => exact ⟨j + 1, _, rfl, by omega, by go_num, by rw [HR.out], HA⟩
      case measure => simp only [intOf]; omega
    · obtain rfl : j = 16 := by omega
      clear hlt hj
      have HD : Hid (∀ U, KeptIn (· < V.heap.size) V U → Calls Try.prog 12 #[pgV s, .int .i64 18, .int .u64 21] U fun e w' => e = .returned (.tuple #[.int .u64 7, .bool true, .int .i64 0]) ∧ KeptIn (· < U.heap.size) U w') := Lib.hid fun U hk => by
        obtain ⟨D, h1, h2, h3⟩ := HJ.out
        have := trGet (h1.old hk) 18 21 (by decide) _ [⟨1, [(0, 16), (24, 17)], 0, 1⟩] ⟨0, (awP 16).take 8, 7, 8⟩ rfl (.inr aw_way) (by decide) (by intro _; decide +kernel)
        refine this.mono ?_
        rintro e w' ⟨rfl, hk'⟩
        exact ⟨rfl, hk'⟩
      have HRd : Hid (∀ U, KeptIn (· < V.heap.size) V U → Calls Try.prog 31 #[.pointer (some ⟨s, 0, none⟩), .int .i64 18] U (RdS U 1 [(0, 16), (24, 17)])) := Lib.hid fun U hk => by
        obtain ⟨D, h1, h2, h3⟩ := HJ.out
        exact shRead (h1.old hk) 17 (by decide +kernel)
      have HCk : Hid (∀ U, KeptIn (· < V.heap.size) V U → Calls Try.prog 17 #[pgV s, .int .i64 18] U fun e w' => e = .returned (.int .i64 0) ∧ KeptIn (· < U.heap.size) U w') := Lib.hid fun U hk => by
        obtain ⟨D, h1, h2, h3⟩ := HJ.out
        obtain ⟨ps, t1, t2⟩ := aw_tree
        exact trCheck h1.len (h1.old hk) (root := 18) (l := 1) (qs := awP 16) (g := [18, 16, 17]) (.inr ⟨ps, _, t1, by omega, t2, rfl⟩) (by decide)
      have HK : Hid (KeptIn (· < w.heap.size) w V) := Lib.hid HJ.out.choose_spec.2.2
      have e18 : awR 16 = 18 := rfl
      rw [e18]
      unfold pgV at HD HCk
      clear HJ e18
      go_wp2_with fail
      refine (HD.out V (KeptIn.refl _ _)).mono ?_
      rintro e V2 ⟨rfl, k2⟩
      have K2 := Lib.hid k2
      clear k2
      go_wp2_with fail
      refine (HRd.out V2 K2.out).mono ?_
      rintro e V3 ⟨g, cg, rfl, hps, hg, k3, hty⟩
      unfold leafV
      obtain ⟨V4, hV4⟩ : ∃ V4, V3.alloc (.cells #[.int .i64 1, .slice (some ⟨g, 0, none⟩) 2 cg] 82) = V4 := ⟨_, rfl⟩
      have k4 : KeptIn (· < V3.heap.size) V3 V4 := by rw [← hV4]; exact (KeptIn.refl _ V3).alloc (fun _ h => h) _
      have hb : BoxL V3.heap.size 1 (some ⟨g, 0, none⟩) 2 cg V4 := by rw [← hV4]; exact BoxL.new V3 _ _ _ _
      have y0 := hb.c0
      have y1 := hb.c1
      have q1 := (psG (hps.old k4) (j := 1) (by decide)).1
      have q2 : V4.cell? ⟨g, 2, none⟩ = some (.int .u64 24) := q1
      have K4 := Lib.hid ((K2.out.go k3).go k4)
      have HCC := Lib.hid (HCk.out V4 K4.out)
      have HV4 := Lib.hid hV4
      obtain ⟨y, hy⟩ : ∃ y, V3.heap.size = y := ⟨_, rfl⟩
      rw [hy] at y0 y1
      have HY := Lib.hid hy
      clear q1 hb k3 k4 hps hg hty hV4 hy HRd HCk HD
      go_upto_region 12 with fail
      rw [HV4.out]
      simp only [HY.out]
      go_wp2_with (go_at_call 17; refine HCC.out.mono ?_; rintro e V5 ⟨rfl, k5⟩)
      go_ret
      exact ⟨rfl, (HK.out.go K4.out).go k5⟩

end Go.Proofs.Ytlnlgapjlekehaa
