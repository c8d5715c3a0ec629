/- Places: the document's place of a pair. -/
import Derived.Test.YtdbanlifneomgaaPc14
import Derived.Deep.RegionHeld3
import Derived.BigRegion
set_option linter.unusedVariables false
namespace Go.Proofs.Ytdbanlifneomgaa
open Go.RowKit

/-- The three boxes of the document's Read. -/
theorem plm_boxes (w : World) (k x : Nat) (t s : Int) : ∀ V, KeptIn (· < (((w.alloc (.cells #[.int .u64 (k : Int), .int .u64 (x : Int)] 50)).alloc (.cells #[.int .i64 0, .int .i64 0] 45)).alloc (.cells #[.int .i64 t, .int .i64 s] 45)).heap.size) (((w.alloc (.cells #[.int .u64 (k : Int), .int .u64 (x : Int)] 50)).alloc (.cells #[.int .i64 0, .int .i64 0] 45)).alloc (.cells #[.int .i64 t, .int .i64 s] 45)) V →
    BoxP w.heap.size k x V ∧ BoxSp (w.heap.size + 1) 0 0 V ∧ BoxSp (w.heap.size + 1 + 1) t s V ∧ KeptIn (· < w.heap.size) w V := by
  intro V hk
  have h1 := BoxP.new w k x
  obtain ⟨W1, hW1⟩ : ∃ W1, w.alloc (.cells #[.int .u64 (k : Int), .int .u64 (x : Int)] 50) = W1 := ⟨_, rfl⟩
  have hk1 : KeptIn (· < w.heap.size) w W1 := by rw [← hW1]; exact (KeptIn.refl _ w).alloc (fun _ h => h) _
  have hs1 : W1.heap.size = w.heap.size + 1 := by rw [← hW1]; simp
  rw [hW1] at h1 hk
  have h2 := BoxSp.new W1 0 0
  obtain ⟨W2, hW2⟩ : ∃ W2, W1.alloc (.cells #[.int .i64 0, .int .i64 0] 45) = W2 := ⟨_, rfl⟩
  have hk2 : KeptIn (· < W1.heap.size) W1 W2 := by rw [← hW2]; exact (KeptIn.refl _ W1).alloc (fun _ h => h) _
  have hs2 : W2.heap.size = w.heap.size + 1 + 1 := by rw [← hW2, World.size_alloc, hs1]
  rw [hW2] at h2 hk
  have h3 := BoxSp.new W2 t s
  obtain ⟨W3, hW3⟩ : ∃ W3, W2.alloc (.cells #[.int .i64 t, .int .i64 s] 45) = W3 := ⟨_, rfl⟩
  have hk3 : KeptIn (· < W2.heap.size) W2 W3 := by rw [← hW3]; exact (KeptIn.refl _ W2).alloc (fun _ h => h) _
  rw [hW3] at h3 hk
  have k3 := hk3.go hk
  have k2 := hk2.go k3
  rw [hs2] at h3
  rw [hs1] at h2
  exact ⟨h1.kept k2 h1.lt, h2.kept k3 h2.lt, h3.kept hk h3.lt, hk1.go k2⟩

theorem decM_nats (k x : Nat) (hk : k < 18446744073709551616) (hx : x < 18446744073709551616) : ∃ (a b m c : Nat), decM k x = ⟨(a : Int), (b : Int), (c : Int)⟩ ∧
    (k : Int) % 4294967296 = (a : Int) ∧ (x : Int) % 256 = (b : Int) ∧ (x : Int) / 256 = (m : Int) ∧ (m : Int) % 1024 = (c : Int) ∧ (a : Int) ≤ 4294967295 ∧ (b : Int) ≤ 255 ∧ (m : Int) ≤ 72057594037927935 ∧ (c : Int) ≤ 1023 := by
  refine ⟨k % 4294967296, x % 256, x / 256, x / 256 % 1024, rfl, by omega, by omega, by omega, by omega, by omega, by omega, by omega, by omega⟩


theorem plm_facts (w : World) (k x b c : Nat) (V : World) (h : BoxP w.heap.size k x V ∧ BoxSp (w.heap.size + 1) 0 0 V ∧ BoxSp (w.heap.size + 1 + 1) (b : Int) (c : Int) V ∧ KeptIn (· < w.heap.size) w V) :
    V.cell? ⟨w.heap.size, 0, none⟩ = some (.int .u64 (k : Int)) ∧ V.cell? ⟨w.heap.size, 1, none⟩ = some (.int .u64 (x : Int)) ∧ V.cell? ⟨w.heap.size + 1 + 1, 0, none⟩ = some (.int .i64 (b : Int)) ∧ V.cell? ⟨w.heap.size + 1 + 1, 1, none⟩ = some (.int .i64 (c : Int)) := by
  obtain ⟨b1, b2, b3, b4⟩ := h
  exact ⟨b1.c0, b1.c1, b3.c0, b3.c1⟩

set_option maxHeartbeats 1000000 in
theorem r14Read (k x : Nat) (hk : k < 18446744073709551616) (hx : x < 18446744073709551616) (w : World) : Calls Try.prog 16 #[pairV (k, x)] w (ReadM w (readPl k x)) := by
  unfold pairV ReadM
  simp only
  obtain ⟨a, b, m, c, hdp, e1, e2, e3, e4, l1, l2, l3, l4⟩ := decM_nats k x hk hx
  have HB := Lib.hid (plm_boxes w k x (b : Int) (c : Int))
  have HF := Lib.hid fun V h => plm_facts w k x b c V (HB.out V h)
  have HG := Lib.hid fun W => r14Can ⟨(a : Int), (b : Int), (c : Int)⟩ W
  unfold spotV at HG
  simp only at HB HF HG
  by_cases hg : GoodP ⟨(a : Int), (b : Int), (c : Int)⟩
  · have HP := Lib.hid fun W => r14Pair ⟨(a : Int), (b : Int), (c : Int)⟩ hg W
    unfold spotV pairV at HP
    simp only at HP
    rw [decide_eq_true hg] at HG
    by_cases hi : IsPl k x ⟨(a : Int), (b : Int), (c : Int)⟩
    · rw [readPl_of hi]
      have hkk := hi.2.1
      have hxx := hi.2.2
      rw [hkk, hxx] at HP
      clear hi hg hkk hxx hdp
      simp only [Option.getD_some, Option.isSome_some]
      go_enter Try.func16, Try.ntmps16
      go_wp2_with fail
      go_region_held3 (fun w' => w'.cell? ⟨w.heap.size, 0, none⟩ = some (.int .u64 (k : Int)) ∧ w'.cell? ⟨w.heap.size, 1, none⟩ = some (.int .u64 (x : Int)) ∧ w'.cell? ⟨w.heap.size + 1 + 1, 0, none⟩ = some (.int .i64 (b : Int)) ∧ w'.cell? ⟨w.heap.size + 1 + 1, 1, none⟩ = some (.int .i64 (c : Int)))
        (first | exact HF.out _ (KeptIn.refl _ _) | exact HF.out _ (KeptIn.refl _ _).drew | exact HF.out _ ((KeptIn.refl _ _).drew.go hk) | exact HF.out _ (((KeptIn.refl _ _).drew.go hk).go hk2))
        (first | (go_at_call 13; refine (HG.out _).mono ?_; rintro e V ⟨rfl, hk⟩) | (go_at_call 15; refine (HP.out _).mono ?_; rintro e V2 ⟨rfl, hk2⟩))
      obtain ⟨b1, b2, b3, b4⟩ := HB.out V2 ((((KeptIn.refl _ _).drew.go hk).go hk2))
      have z0 := b3.c0
      have z1 := b3.c1
      have q0 := b2.c0
      have q1 := b2.c1
      have r0 := b2.fr 0
      have r1 := b2.fr 1
      have HBB := Lib.hid (And.intro b1 (And.intro b2 (And.intro b3 b4)))
      clear b1 b2 b3 b4 HB HF
      go_wp2_with fail
      go_region
      go_wp2_with fail
      have hx := (HBB.out.2.1.set (b : Int) (c : Int)).kept ((KeptIn.refl (fun _ => True) _).drew) trivial
      refine bodyPost_ret (results_spot3 rfl _ _ (w.heap.size + 1) _ _ rfl hx) rfl ?_
      exact ⟨rfl, ((HBB.out.2.2.2.setCell (p := ⟨w.heap.size + 1, 0, none⟩) (by simp) _).setCell (p := ⟨w.heap.size + 1, 1, none⟩) (by simp) _).drew⟩
    · rw [readPl_no' (by rw [hdp]; exact hi)]
      simp only [Option.getD_none, Option.isSome_none]
      obtain ⟨K, hK⟩ : ∃ K, keyP ⟨(a : Int), (b : Int), (c : Int)⟩ = K := ⟨_, rfl⟩
      obtain ⟨X, hX⟩ : ∃ X, valP ⟨(a : Int), (b : Int), (c : Int)⟩ = X := ⟨_, rfl⟩
      rw [hK, hX] at HP
      have hne : ¬ (K = k ∧ X = x) := fun h => hi ⟨hg, hK.trans h.1, hX.trans h.2⟩
      clear hi hg hdp hK hX
      by_cases hKk : K = k
      · subst hKk
        have hXx : ¬ X = x := fun h => hne ⟨rfl, h⟩
        have n1 : ((X : Int) == (x : Int)) = false := by rw [beq_eq_false_iff_ne]; omega
        have n2 : (X == x) = false := by rw [beq_eq_false_iff_ne]; exact hXx
        have n3 : ¬ (X : Int) = (x : Int) := by omega
        clear hne
        go_enter Try.func16, Try.ntmps16
        go_wp2_with fail
        go_region_held3 (fun w' => w'.cell? ⟨w.heap.size, 0, none⟩ = some (.int .u64 (K : Int)) ∧ w'.cell? ⟨w.heap.size, 1, none⟩ = some (.int .u64 (x : Int)) ∧ w'.cell? ⟨w.heap.size + 1 + 1, 0, none⟩ = some (.int .i64 (b : Int)) ∧ w'.cell? ⟨w.heap.size + 1 + 1, 1, none⟩ = some (.int .i64 (c : Int)))
          (first | exact HF.out _ (KeptIn.refl _ _) | exact HF.out _ (KeptIn.refl _ _).drew | exact HF.out _ ((KeptIn.refl _ _).drew.go hk) | exact HF.out _ (((KeptIn.refl _ _).drew.go hk).go hk2))
          (first | (go_at_call 13; refine (HG.out _).mono ?_; rintro e V ⟨rfl, hk⟩) | (go_at_call 15; refine (HP.out _).mono ?_; rintro e V2 ⟨rfl, hk2⟩))
        obtain ⟨b1, b2, b3, b4⟩ := HB.out V2 ((((KeptIn.refl _ _).drew.go hk).go hk2))
        have z0 := b3.c0
        have z1 := b3.c1
        have q0 := b2.c0
        have q1 := b2.c1
        have r0 := b2.fr 0
        have r1 := b2.fr 1
        have HBB := Lib.hid (And.intro b1 (And.intro b2 (And.intro b3 b4)))
        clear b1 b2 b3 b4 HB HF
        go_wp2_with fail
        refine bodyPost_ret (results_spot3 rfl _ _ (w.heap.size + 1) _ _ rfl (HBB.out.2.1.set 0 0)) rfl ?_
        exact ⟨rfl, (HBB.out.2.2.2.setCell (p := ⟨w.heap.size + 1, 0, none⟩) (by simp) _).setCell (p := ⟨w.heap.size + 1, 1, none⟩) (by simp) _⟩
      · have n1 : ((K : Int) == (k : Int)) = false := by rw [beq_eq_false_iff_ne]; omega
        have n2 : (K == k) = false := by rw [beq_eq_false_iff_ne]; exact hKk
        have n3 : ¬ (K : Int) = (k : Int) := by omega
        clear hne
        go_enter Try.func16, Try.ntmps16
        go_wp2_with fail
        go_region_held3 (fun w' => w'.cell? ⟨w.heap.size, 0, none⟩ = some (.int .u64 (k : Int)) ∧ w'.cell? ⟨w.heap.size, 1, none⟩ = some (.int .u64 (x : Int)) ∧ w'.cell? ⟨w.heap.size + 1 + 1, 0, none⟩ = some (.int .i64 (b : Int)) ∧ w'.cell? ⟨w.heap.size + 1 + 1, 1, none⟩ = some (.int .i64 (c : Int)))
          (first | exact HF.out _ (KeptIn.refl _ _) | exact HF.out _ (KeptIn.refl _ _).drew | exact HF.out _ ((KeptIn.refl _ _).drew.go hk) | exact HF.out _ (((KeptIn.refl _ _).drew.go hk).go hk2))
          (first | (go_at_call 13; refine (HG.out _).mono ?_; rintro e V ⟨rfl, hk⟩) | (go_at_call 15; refine (HP.out _).mono ?_; rintro e V2 ⟨rfl, hk2⟩))
        obtain ⟨b1, b2, b3, b4⟩ := HB.out V2 ((((KeptIn.refl _ _).drew.go hk).go hk2))
        have z0 := b3.c0
        have z1 := b3.c1
        have q0 := b2.c0
        have q1 := b2.c1
        have r0 := b2.fr 0
        have r1 := b2.fr 1
        have HBB := Lib.hid (And.intro b1 (And.intro b2 (And.intro b3 b4)))
        clear b1 b2 b3 b4 HB HF
        go_wp2_with fail
        refine bodyPost_ret (results_spot3 rfl _ _ (w.heap.size + 1) _ _ rfl (HBB.out.2.1.set 0 0)) rfl ?_
        exact ⟨rfl, (HBB.out.2.2.2.setCell (p := ⟨w.heap.size + 1, 0, none⟩) (by simp) _).setCell (p := ⟨w.heap.size + 1, 1, none⟩) (by simp) _⟩
  · rw [readPl_no' (by rw [hdp]; exact fun h => hg h.1)]
    simp only [Option.getD_none, Option.isSome_none]
    rw [decide_eq_false hg] at HG
    clear hg hdp
    go_enter Try.func16, Try.ntmps16
    go_wp2_with fail
    first | go_region_law (first | (go_simp; go_at_call 13; refine (HG.out _).mono ?_; rintro e V ⟨rfl, hk⟩; obtain ⟨b1, b2, b3, b4⟩ := HB.out V ((KeptIn.refl _ _).drew.go hk); have q0 := b2.c0; have q1 := b2.c1; have r0 := b2.fr 0; have r1 := b2.fr 1; have HBB := Lib.hid (And.intro b1 (And.intro b2 (And.intro b3 b4))); clear b1 b2 b3 b4)) | fail
    all_goals
      try go_wp2_with fail
      refine bodyPost_ret (results_spot3 rfl _ _ (w.heap.size + 1) _ _ rfl (HBB.out.2.1.set 0 0)) rfl ?_
      exact ⟨rfl, (HBB.out.2.2.2.setCell (p := ⟨w.heap.size + 1, 0, none⟩) (by simp) _).setCell (p := ⟨w.heap.size + 1, 1, none⟩) (by simp) _⟩

end Go.Proofs.Ytdbanlifneomgaa
