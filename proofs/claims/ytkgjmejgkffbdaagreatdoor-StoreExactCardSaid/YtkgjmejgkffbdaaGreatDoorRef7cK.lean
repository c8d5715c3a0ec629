import Derived.Test.YtkgjmejgkffbdaaGreatDoorRef7bK
import Derived.Test.YtkgjmejgkffbdaaGreatDoorRef6K
import Derived.Test.YtkgjmejgkffbdaaGreatDoorAw7K
/- The reference of layer 7 (tierceref07): Add, Next, New. -/
set_option linter.unusedVariables false
namespace Go.Proofs.YtkgjmejgkffbdaaGreatDoor
open Go.RowKit


set_option maxHeartbeats 1000000 in
theorem r7AddOk {R : R7} {n : Nat} {K F : Nat → Bool} {L : Nat → Option Nat} {h : Hd} {w : World} (k : IsR7 R n K F L h w) (hn : n ≤ 512) (g x : Nat) (hps : IsPs w (some ⟨g, 0, none⟩) (psK x)) (q : Nat) (q1 : 1 ≤ q) (q2 : q < n) (q3 : K q = false) (q4 : F q = false) (q5 : ∀ i, 1 ≤ i → i < q → K i = true ∨ F i = true) :
    Calls Tryz.prog 13 #[.pointer (some ⟨R.u, 0, none⟩), .agg #[.int .i64 0, .slice (some ⟨g, 0, none⟩) 1 1]] w fun e w' => e = .returned (.tuple #[.int .i64 0, .int .i64 q]) ∧ IsR7 R n K (fun r => if r = q then true else F r) (fun r => if r = q then some g else L r) h w' ∧ FrR R w w' := by
  have HQ := Lib.hid (And.intro q3 (And.intro q4 q5))
  clear q3 q4 q5
  have Q1 := q1
  clear q1
  obtain ⟨B, hB⟩ : ∃ B, w.heap.size = B := ⟨_, rfl⟩
  have hb0 := heap_alloc_new w (.cells #[.int .i64 0, .slice (some ⟨g, 0, none⟩) 1 1] 47)
  have hk0 : KeptIn (· < w.heap.size) w (w.alloc (.cells #[.int .i64 0, .slice (some ⟨g, 0, none⟩) 1 1] 47)) := (KeptIn.refl _ w).alloc (fun _ h => h) _
  rw [hB] at hb0
  obtain ⟨W0, hW0⟩ : ∃ W0, w.alloc (.cells #[.int .i64 0, .slice (some ⟨g, 0, none⟩) 1 1] 47) = W0 := ⟨_, rfl⟩
  rw [hW0] at hb0 hk0
  have hgood : goodN 0 (psK x) = true := psK_good x
  have CG := r5Good 0 (some ⟨g, 0, none⟩) 1 (psK x) W0 (hps.old hk0)
  rw [hgood] at CG
  have HCG := Lib.hid CG
  have HK := Lib.hid k
  have HW0 := Lib.hid (And.intro hW0 (And.intro hB hk0))
  have q0 : W0.cell? ⟨B, 0, none⟩ = some (.int .i64 0) := by simp [World.cell?, hb0]
  have q1 : W0.cell? ⟨B, 1, none⟩ = some (.slice (some ⟨g, 0, none⟩) 1 1) := by simp [World.cell?, hb0]
  have HB0 := Lib.hid hb0
  have HLT : Hid (∀ j, R.has j → j < B) := Lib.hid fun j hj => by rw [← hB]; exact k.lt j hj
  have hm : (n : Int) ≤ 512 := by omega
  clear hW0 hB hk0 CG hgood k hps hb0
  go_enter Tryz.func13, Tryz.ntmps13
  go_upto_region 1 with fail
  rw [HW0.out.1, HW0.out.2.1]
  go_wp2_with fail
  refine HCG.out.mono ?_
  rintro e W1 ⟨rfl, k1⟩
  have hB1 := (k1.block B (Array.getElem?_eq_some_iff.1 HB0.out).1).trans HB0.out
  have b0 : W1.cell? ⟨B, 0, none⟩ = some (.int .i64 0) := by simp [World.cell?, hB1]
  have b1 : W1.cell? ⟨B, 1, none⟩ = some (.slice (some ⟨g, 0, none⟩) 1 1) := by simp [World.cell?, hB1]
  have HB1 := Lib.hid hB1
  have HK1 := Lib.hid (And.intro (HK.out.old (HW0.out.2.2.step k1)) (HW0.out.2.2.step k1))
  have c0 := HK1.out.1.c0; have c1 := HK1.out.1.c1; have c2 := HK1.out.1.c2; have c3 := HK1.out.1.c3
  clear k1 hB1 q0 q1 HCG HK HB0
  go_wp2_with fail
  go_loopw [6] (fun c wr => ∃ (j : Nat) (W' : World), W' = wr ∧ wr = W1 ∧ 1 ≤ j ∧ j ≤ q ∧ c = .int .i64 j) (fun c _ => n - (RowKit.intOf c).toNat)
  case atStart => exact ⟨1, _, rfl, by trivial, Nat.le_refl _, Q1, rfl⟩
  case round =>
    obtain ⟨j, W', rfl, rfl, hj1, hjq, rfl⟩ := hrel
    have d0 : (0 : Int) ≤ (j : Int) := by omega
    have d1 : (j : Int) < (n : Int) := by omega
    have e0 := HK1.out.1.ak j (by omega)
    have e1 := HK1.out.1.af j (by omega)
    by_cases hq : j = q
    · subst hq
      rw [HQ.out.1] at e0
      rw [HQ.out.2.1] at e1
      obtain ⟨d3, d4⟩ := HK1.out.1.ad j (by omega)
      obtain ⟨lj, hlj⟩ : ∃ lj, nodV (L j) = lj := ⟨_, rfl⟩
      rw [hlj] at d4
      have z1 := HK1.out.1.hf.fz j
      have hset := HK1.out.1.setF j true
      have hfr : FrR R w (W'.setCell ⟨R.f, j, none⟩ (.bool true)) := (HK1.out.2.mono fun _ h => h.1).setCell (p := ⟨R.f, j, none⟩) (by simp [R7.has]) _
      have hBf : B ≠ R.f := fun e => Nat.lt_irrefl B (HLT.out B (.inr (.inr (.inl e))))
      have hbV := (((KeptIn.refl (· ≠ R.f) W').setCell (p := ⟨R.f, j, none⟩) (by simp) (.bool true)).block B hBf).trans HB1.out
      obtain ⟨V, hV⟩ : ∃ V, W'.setCell ⟨R.f, j, none⟩ (.bool true) = V := ⟨_, rfl⟩
      rw [hV] at hset hfr hbV
      have HV := Lib.hid hV
      have v0 : V.cell? ⟨B, 0, none⟩ = some (.int .i64 0) := by simp [World.cell?, hbV]
      have v1 : V.cell? ⟨B, 1, none⟩ = some (.slice (some ⟨g, 0, none⟩) 1 1) := by simp [World.cell?, hbV]
      have v3 := hset.c3
      obtain ⟨d3, d4⟩ := hset.ad j (by omega)
      obtain ⟨lj, hlj⟩ : ∃ lj, nodV (L j) = lj := ⟨_, rfl⟩
      rw [hlj] at d4
      have z3 := hset.fd' (j * 2); have z4 := hset.fd' (j * 2 + 1)
      have hfin := hset.setD j (by omega) (some g)
      have hff : FrR R w ((V.setCell ⟨R.d, j * 2, none⟩ (.int .i64 0)).setCell ⟨R.d, j * 2 + 1, none⟩ (nodV (some g))) := (hfr.setCell (p := ⟨R.d, j * 2, none⟩) (by simp [R7.has]) _).setCell (p := ⟨R.d, j * 2 + 1, none⟩) (by simp [R7.has]) _
      have HX := Lib.hid (And.intro hfin.drew hff.drew)
      clear hlj hset hfr hbV hV hfin hff
      go_upto_region 8 with fail
      rw [HV.out]
      clear e0 e1 c0 c1 c2 c3 b0 b1 z1
      go_wp2_with fail
      go_region
      all_goals
        go_wp2_with fail
        go_ret2
        exact ⟨rfl, HX.out⟩
    · have hor := HQ.out.2.2 j hj1 (by omega)
      obtain ⟨kj, hkj⟩ : ∃ kj, K j = kj := ⟨_, rfl⟩
      obtain ⟨fj, hfj⟩ : ∃ fj, F j = fj := ⟨_, rfl⟩
      rw [hkj] at e0 hor
      rw [hfj] at e1 hor
      clear hkj hfj
      cases kj with
      | true =>
        clear hor
        go_wp2_with fail
        go_roundw
        case rel => exact ⟨j + 1, _, rfl, by trivial, by omega, by omega, by go_num⟩
        case measure => simp [RowKit.intOf]; omega
      | false =>
        obtain rfl : fj = true := by simpa using hor
        clear hor
        go_wp2_with fail
        go_roundw
        case rel => exact ⟨j + 1, _, rfl, by trivial, by omega, by omega, by go_num⟩
        case measure => simp [RowKit.intOf]; omega

set_option maxHeartbeats 1000000 in
theorem r7AddFull {R : R7} {n : Nat} {K F : Nat → Bool} {L : Nat → Option Nat} {h : Hd} {w : World} (k : IsR7 R n K F L h w) (hn : n ≤ 512) (n1 : 1 ≤ n) (g x : Nat) (hps : IsPs w (some ⟨g, 0, none⟩) (psK x)) (q5 : ∀ i, 1 ≤ i → i < n → K i = true ∨ F i = true) :
    Calls Tryz.prog 13 #[.pointer (some ⟨R.u, 0, none⟩), .agg #[.int .i64 0, .slice (some ⟨g, 0, none⟩) 1 1]] w fun e w' => e = .returned (.tuple #[.int .i64 6, .int .i64 0]) ∧ KeptIn (· < w.heap.size) w w' := by
  have HQ := Lib.hid q5
  clear q5
  obtain ⟨B, hB⟩ : ∃ B, w.heap.size = B := ⟨_, rfl⟩
  have hb0 := heap_alloc_new w (.cells #[.int .i64 0, .slice (some ⟨g, 0, none⟩) 1 1] 47)
  have hk0 : KeptIn (· < w.heap.size) w (w.alloc (.cells #[.int .i64 0, .slice (some ⟨g, 0, none⟩) 1 1] 47)) := (KeptIn.refl _ w).alloc (fun _ h => h) _
  rw [hB] at hb0
  obtain ⟨W0, hW0⟩ : ∃ W0, w.alloc (.cells #[.int .i64 0, .slice (some ⟨g, 0, none⟩) 1 1] 47) = W0 := ⟨_, rfl⟩
  rw [hW0] at hb0 hk0
  have hgood : goodN 0 (psK x) = true := psK_good x
  have CG := r5Good 0 (some ⟨g, 0, none⟩) 1 (psK x) W0 (hps.old hk0)
  rw [hgood] at CG
  have HCG := Lib.hid CG
  have HK := Lib.hid k
  have HW0 := Lib.hid (And.intro hW0 (And.intro hB hk0))
  have q0 : W0.cell? ⟨B, 0, none⟩ = some (.int .i64 0) := by simp [World.cell?, hb0]
  have q1 : W0.cell? ⟨B, 1, none⟩ = some (.slice (some ⟨g, 0, none⟩) 1 1) := by simp [World.cell?, hb0]
  have HB0 := Lib.hid hb0
  have HLT : Hid (∀ j, R.has j → j < B) := Lib.hid fun j hj => by rw [← hB]; exact k.lt j hj
  have hm : (n : Int) ≤ 512 := by omega
  clear hW0 hB hk0 CG hgood k hps hb0
  go_enter Tryz.func13, Tryz.ntmps13
  go_upto_region 1 with fail
  rw [HW0.out.1, HW0.out.2.1]
  go_wp2_with fail
  refine HCG.out.mono ?_
  rintro e W1 ⟨rfl, k1⟩
  have hB1 := (k1.block B (Array.getElem?_eq_some_iff.1 HB0.out).1).trans HB0.out
  have b0 : W1.cell? ⟨B, 0, none⟩ = some (.int .i64 0) := by simp [World.cell?, hB1]
  have b1 : W1.cell? ⟨B, 1, none⟩ = some (.slice (some ⟨g, 0, none⟩) 1 1) := by simp [World.cell?, hB1]
  have HB1 := Lib.hid hB1
  have HK1 := Lib.hid (And.intro (HK.out.old (HW0.out.2.2.step k1)) (HW0.out.2.2.step k1))
  have c0 := HK1.out.1.c0; have c1 := HK1.out.1.c1; have c2 := HK1.out.1.c2; have c3 := HK1.out.1.c3
  clear k1 hB1 q0 q1 HCG HK HB0
  go_wp2_with fail
  go_loopw [6] (fun c wr => ∃ (j : Nat) (W' : World), W' = wr ∧ wr = W1 ∧ 1 ≤ j ∧ j ≤ n ∧ c = .int .i64 j) (fun c _ => n - (RowKit.intOf c).toNat)
  case atStart => exact ⟨1, _, rfl, by trivial, Nat.le_refl _, n1, rfl⟩
  case round =>
    obtain ⟨j, W', rfl, rfl, hj1, hjq, rfl⟩ := hrel
    have d0 : (0 : Int) ≤ (j : Int) := by omega
    by_cases hq : j < n
    · have d1 : (j : Int) < (n : Int) := by omega
      have e0 := HK1.out.1.ak j (by omega)
      have e1 := HK1.out.1.af j (by omega)
      have hor := HQ.out j hj1 hq
      obtain ⟨kj, hkj⟩ : ∃ kj, K j = kj := ⟨_, rfl⟩
      obtain ⟨fj, hfj⟩ : ∃ fj, F j = fj := ⟨_, rfl⟩
      rw [hkj] at e0 hor
      rw [hfj] at e1 hor
      clear hkj hfj
      cases kj with
      | true =>
        clear hor
        go_wp2_with fail
        go_roundw
        case rel => exact ⟨j + 1, _, rfl, by trivial, by omega, by omega, by go_num⟩
        case measure => simp [RowKit.intOf]; omega
      | false =>
        obtain rfl : fj = true := by simpa using hor
        clear hor
        go_wp2_with fail
        go_roundw
        case rel => exact ⟨j + 1, _, rfl, by trivial, by omega, by omega, by go_num⟩
        case measure => simp [RowKit.intOf]; omega
    · obtain rfl : j = n := by omega
      have HX := Lib.hid HK1.out.2
      clear HK1
      go_wp2_with fail
      go_ret2
      exact ⟨rfl, HX.out⟩

end Go.Proofs.YtkgjmejgkffbdaaGreatDoor
