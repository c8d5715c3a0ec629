/- Volumes: the document's volume of a pair. -/
import Derived.Test.YtlnlgapjlekehaaVr
import Derived.Deep.RegionHeld3
set_option linter.unusedVariables false
namespace Go.Proofs.Ytlnlgapjlekehaa
open Go.RowKit


theorem vr_facts (w : World) (k x a b c d : Nat) (pin : Bool) (V : World) (h : BoxP w.heap.size k x V ∧ BoxV (w.heap.size + 1) vol0 V ∧ BoxV (w.heap.size + 1 + 1) ⟨(a : Int), (b : Int), (c : Int), pin, (d : Int)⟩ V ∧ KeptIn (· < w.heap.size) w V ∧ w.heap.size + 1 + 1 + 1 ≤ V.heap.size) :
    V.cell? ⟨w.heap.size, 0, none⟩ = some (.int .u64 (k : Int)) ∧ V.cell? ⟨w.heap.size, 1, none⟩ = some (.int .u64 (x : Int)) ∧ V.cell? ⟨w.heap.size + 1 + 1, 0, none⟩ = some (.int .i64 (a : Int)) ∧ V.cell? ⟨w.heap.size + 1 + 1, 1, none⟩ = some (.int .i64 (b : Int)) ∧ V.cell? ⟨w.heap.size + 1 + 1, 2, none⟩ = some (.int .i64 (c : Int)) ∧ V.cell? ⟨w.heap.size + 1 + 1, 3, none⟩ = some (.bool pin) ∧ V.cell? ⟨w.heap.size + 1 + 1, 4, none⟩ = some (.int .i64 (d : Int)) := by
  obtain ⟨b1, b2, b3, b4, b5⟩ := h
  exact ⟨b1.c0, b1.c1, b3.c0, b3.c1, b3.c2, b3.c3, b3.c4⟩

set_option maxHeartbeats 1000000 in
theorem r11Read (k x : Nat) (hk : k < 18446744073709551616) (hx : x < 18446744073709551616) (w : World) : Calls Try.prog 26 #[pairV (k, x)] w (ReadS w (readVol k x)) := by
  unfold pairV ReadS
  simp only
  obtain ⟨a, b, c, d, pin, hv, e1, e2, e3, e4, e5, l1, l2, l3, l4⟩ := dec_nats k x hk hx 256 (.inr rfl)
  have hdp : decR k x = ⟨(a : Int), (b : Int), (c : Int), pin, (d : Int)⟩ := hv
  have e4' : ((x : Int) / 4294967296 % 256 == 1) = pin := e4
  have HB := Lib.hid (vr_boxes w k x ⟨(a : Int), (b : Int), (c : Int), pin, (d : Int)⟩)
  have HF := Lib.hid fun V h => vr_facts w k x a b c d pin V (HB.out V h)
  have HG := Lib.hid fun W => r11Good ⟨(a : Int), (b : Int), (c : Int), pin, (d : Int)⟩ W
  unfold volV at HG
  simp only at HB HF HG
  clear hv e4
  by_cases hg : GoodV ⟨(a : Int), (b : Int), (c : Int), pin, (d : Int)⟩
  · have HP := Lib.hid fun W => r11Pair ⟨(a : Int), (b : Int), (c : Int), pin, (d : Int)⟩ hg W
    unfold volV pairV at HP
    simp only at HP
    rw [decide_eq_true hg] at HG
    by_cases hi : IsV k x ⟨(a : Int), (b : Int), (c : Int), pin, (d : Int)⟩
    · rw [readVol_of hi]
      have hkk := hi.2.1
      have hxx := hi.2.2
      rw [hkk, hxx] at HP
      clear hi hg hkk hxx hdp
      simp only [Option.getD_some, Option.isSome_some]
      go_enter Try.func26, Try.ntmps26
      go_wp2_with fail
      go_region_held3 (fun w' => w'.cell? ⟨w.heap.size, 0, none⟩ = some (.int .u64 (k : Int)) ∧ w'.cell? ⟨w.heap.size, 1, none⟩ = some (.int .u64 (x : Int)) ∧ w'.cell? ⟨w.heap.size + 1 + 1, 0, none⟩ = some (.int .i64 (a : Int)) ∧ w'.cell? ⟨w.heap.size + 1 + 1, 1, none⟩ = some (.int .i64 (b : Int)) ∧ w'.cell? ⟨w.heap.size + 1 + 1, 2, none⟩ = some (.int .i64 (c : Int)) ∧ w'.cell? ⟨w.heap.size + 1 + 1, 3, none⟩ = some (.bool pin) ∧ w'.cell? ⟨w.heap.size + 1 + 1, 4, none⟩ = some (.int .i64 (d : Int)))
        (first | exact HF.out _ (KeptIn.refl _ _) | exact HF.out _ (KeptIn.refl _ _).drew | exact HF.out _ ((KeptIn.refl _ _).drew.go hk) | exact HF.out _ (((KeptIn.refl _ _).drew.go hk).go hk2))
        (first | (go_at_call 23; refine (HG.out _).mono ?_; rintro e V ⟨rfl, hk⟩) | (go_at_call 25; refine (HP.out _).mono ?_; rintro e V2 ⟨rfl, hk2⟩))
      obtain ⟨b1, b2, b3, b4, b5⟩ := HB.out V2 ((((KeptIn.refl _ _).drew.go hk).go hk2))
      have z0 := b3.c0
      have z1 := b3.c1
      have z2 := b3.c2
      have z3 := b3.c3
      have z4 := b3.c4
      have q0 := b2.c0
      have q1 := b2.c1
      have q2 := b2.c2
      have q3 := b2.c3
      have q4 := b2.c4
      have r0 := b2.fr 0
      have r1 := b2.fr 1
      have r2 := b2.fr 2
      have r3 := b2.fr 3
      have r4 := b2.fr 4
      have HBB := Lib.hid (And.intro b1 (And.intro b2 (And.intro b3 (And.intro b4 b5))))
      clear b1 b2 b3 b4 b5 HB HF
      go_wp2_with fail
      refine bodyPost_ret (results_vol_tmp rfl _ _ (w.heap.size + 1) _ rfl (HBB.out.2.1.set ⟨(a : Int), (b : Int), (c : Int), pin, (d : Int)⟩)) rfl ?_
      exact ⟨rfl, ((((HBB.out.2.2.2.1.setCell (p := ⟨w.heap.size + 1, 0, none⟩) (by simp) _).setCell (p := ⟨w.heap.size + 1, 1, none⟩) (by simp) _).setCell (p := ⟨w.heap.size + 1, 2, none⟩) (by simp) _).setCell (p := ⟨w.heap.size + 1, 3, none⟩) (by simp) _).setCell (p := ⟨w.heap.size + 1, 4, none⟩) (by simp) _⟩
    · rw [readVol_no' (by rw [hdp]; exact hi)]
      simp only [Option.getD_none, Option.isSome_none]
      obtain ⟨K, hK⟩ : ∃ K, keyV ⟨(a : Int), (b : Int), (c : Int), pin, (d : Int)⟩ = K := ⟨_, rfl⟩
      obtain ⟨X, hX⟩ : ∃ X, valV ⟨(a : Int), (b : Int), (c : Int), pin, (d : Int)⟩ = X := ⟨_, rfl⟩
      rw [hK, hX] at HP
      have hne : ¬ (K = k ∧ X = x) := fun h => hi ⟨hg, hK.trans h.1, hX.trans h.2⟩
      clear hi hg hdp hK hX
      by_cases hKk : K = k
      · subst hKk
        have hXx : ¬ X = x := fun h => hne ⟨rfl, h⟩
        have n1 : ((X : Int) == (x : Int)) = false := by rw [beq_eq_false_iff_ne]; omega
        have n2 : (X == x) = false := by rw [beq_eq_false_iff_ne]; exact hXx
        have n3 : ¬ (X : Int) = (x : Int) := by omega
        clear hne
        go_enter Try.func26, Try.ntmps26
        go_wp2_with fail
        go_region_held3 (fun w' => w'.cell? ⟨w.heap.size, 0, none⟩ = some (.int .u64 (K : Int)) ∧ w'.cell? ⟨w.heap.size, 1, none⟩ = some (.int .u64 (x : Int)) ∧ w'.cell? ⟨w.heap.size + 1 + 1, 0, none⟩ = some (.int .i64 (a : Int)) ∧ w'.cell? ⟨w.heap.size + 1 + 1, 1, none⟩ = some (.int .i64 (b : Int)) ∧ w'.cell? ⟨w.heap.size + 1 + 1, 2, none⟩ = some (.int .i64 (c : Int)) ∧ w'.cell? ⟨w.heap.size + 1 + 1, 3, none⟩ = some (.bool pin) ∧ w'.cell? ⟨w.heap.size + 1 + 1, 4, none⟩ = some (.int .i64 (d : Int)))
          (first | exact HF.out _ (KeptIn.refl _ _) | exact HF.out _ (KeptIn.refl _ _).drew | exact HF.out _ ((KeptIn.refl _ _).drew.go hk) | exact HF.out _ (((KeptIn.refl _ _).drew.go hk).go hk2))
          (first | (go_at_call 23; refine (HG.out _).mono ?_; rintro e V ⟨rfl, hk⟩) | (go_at_call 25; refine (HP.out _).mono ?_; rintro e V2 ⟨rfl, hk2⟩))
        obtain ⟨b1, b2, b3, b4, b5⟩ := HB.out V2 ((((KeptIn.refl _ _).drew.go hk).go hk2))
        have z0 := b3.c0
        have z1 := b3.c1
        have z2 := b3.c2
        have z3 := b3.c3
        have z4 := b3.c4
        have q0 := b2.c0
        have q1 := b2.c1
        have q2 := b2.c2
        have q3 := b2.c3
        have q4 := b2.c4
        have r0 := b2.fr 0
        have r1 := b2.fr 1
        have r2 := b2.fr 2
        have r3 := b2.fr 3
        have r4 := b2.fr 4
        have HBB := Lib.hid (And.intro b1 (And.intro b2 (And.intro b3 (And.intro b4 b5))))
        clear b1 b2 b3 b4 b5 HB HF
        go_wp2_with fail
        refine bodyPost_ret (results_vol_tmp rfl _ _ (w.heap.size + 1) _ rfl (HBB.out.2.1.set vol0)) rfl ?_
        exact ⟨rfl, ((((HBB.out.2.2.2.1.setCell (p := ⟨w.heap.size + 1, 0, none⟩) (by simp) _).setCell (p := ⟨w.heap.size + 1, 1, none⟩) (by simp) _).setCell (p := ⟨w.heap.size + 1, 2, none⟩) (by simp) _).setCell (p := ⟨w.heap.size + 1, 3, none⟩) (by simp) _).setCell (p := ⟨w.heap.size + 1, 4, none⟩) (by simp) _⟩
      · have n1 : ((K : Int) == (k : Int)) = false := by rw [beq_eq_false_iff_ne]; omega
        have n2 : (K == k) = false := by rw [beq_eq_false_iff_ne]; exact hKk
        have n3 : ¬ (K : Int) = (k : Int) := by omega
        clear hne
        go_enter Try.func26, Try.ntmps26
        go_wp2_with fail
        go_region_held3 (fun w' => w'.cell? ⟨w.heap.size, 0, none⟩ = some (.int .u64 (k : Int)) ∧ w'.cell? ⟨w.heap.size, 1, none⟩ = some (.int .u64 (x : Int)) ∧ w'.cell? ⟨w.heap.size + 1 + 1, 0, none⟩ = some (.int .i64 (a : Int)) ∧ w'.cell? ⟨w.heap.size + 1 + 1, 1, none⟩ = some (.int .i64 (b : Int)) ∧ w'.cell? ⟨w.heap.size + 1 + 1, 2, none⟩ = some (.int .i64 (c : Int)) ∧ w'.cell? ⟨w.heap.size + 1 + 1, 3, none⟩ = some (.bool pin) ∧ w'.cell? ⟨w.heap.size + 1 + 1, 4, none⟩ = some (.int .i64 (d : Int)))
          (first | exact HF.out _ (KeptIn.refl _ _) | exact HF.out _ (KeptIn.refl _ _).drew | exact HF.out _ ((KeptIn.refl _ _).drew.go hk) | exact HF.out _ (((KeptIn.refl _ _).drew.go hk).go hk2))
          (first | (go_at_call 23; refine (HG.out _).mono ?_; rintro e V ⟨rfl, hk⟩) | (go_at_call 25; refine (HP.out _).mono ?_; rintro e V2 ⟨rfl, hk2⟩))
        obtain ⟨b1, b2, b3, b4, b5⟩ := HB.out V2 ((((KeptIn.refl _ _).drew.go hk).go hk2))
        have z0 := b3.c0
        have z1 := b3.c1
        have z2 := b3.c2
        have z3 := b3.c3
        have z4 := b3.c4
        have q0 := b2.c0
        have q1 := b2.c1
        have q2 := b2.c2
        have q3 := b2.c3
        have q4 := b2.c4
        have r0 := b2.fr 0
        have r1 := b2.fr 1
        have r2 := b2.fr 2
        have r3 := b2.fr 3
        have r4 := b2.fr 4
        have HBB := Lib.hid (And.intro b1 (And.intro b2 (And.intro b3 (And.intro b4 b5))))
        clear b1 b2 b3 b4 b5 HB HF
        go_wp2_with fail
        refine bodyPost_ret (results_vol_tmp rfl _ _ (w.heap.size + 1) _ rfl (HBB.out.2.1.set vol0)) rfl ?_
        exact ⟨rfl, ((((HBB.out.2.2.2.1.setCell (p := ⟨w.heap.size + 1, 0, none⟩) (by simp) _).setCell (p := ⟨w.heap.size + 1, 1, none⟩) (by simp) _).setCell (p := ⟨w.heap.size + 1, 2, none⟩) (by simp) _).setCell (p := ⟨w.heap.size + 1, 3, none⟩) (by simp) _).setCell (p := ⟨w.heap.size + 1, 4, none⟩) (by simp) _⟩
  · rw [readVol_no' (by rw [hdp]; exact fun h => hg h.1)]
    simp only [Option.getD_none, Option.isSome_none]
    rw [decide_eq_false hg] at HG
    clear hg hdp
    go_enter Try.func26, Try.ntmps26
    go_wp2_with fail
    first | go_region_law (first | (go_simp; go_at_call 23; refine (HG.out _).mono ?_; rintro e V ⟨rfl, hk⟩; obtain ⟨b1, b2, b3, b4, b5⟩ := HB.out V ((KeptIn.refl _ _).drew.go hk); have q0 := b2.c0; have q1 := b2.c1; have q2 := b2.c2; have q3 := b2.c3; have q4 := b2.c4; have r0 := b2.fr 0; have r1 := b2.fr 1; have r2 := b2.fr 2; have r3 := b2.fr 3; have r4 := b2.fr 4; have HBB := Lib.hid (And.intro b1 (And.intro b2 (And.intro b3 (And.intro b4 b5)))); clear b1 b2 b3 b4 b5)) | fail
    all_goals
      try go_wp2_with fail
      refine bodyPost_ret (results_vol_tmp rfl _ _ (w.heap.size + 1) _ rfl (HBB.out.2.1.set vol0)) rfl ?_
      exact ⟨rfl, ((((HBB.out.2.2.2.1.setCell (p := ⟨w.heap.size + 1, 0, none⟩) (by simp) _).setCell (p := ⟨w.heap.size + 1, 1, none⟩) (by simp) _).setCell (p := ⟨w.heap.size + 1, 2, none⟩) (by simp) _).setCell (p := ⟨w.heap.size + 1, 3, none⟩) (by simp) _).setCell (p := ⟨w.heap.size + 1, 4, none⟩) (by simp) _⟩

end Go.Proofs.Ytlnlgapjlekehaa
