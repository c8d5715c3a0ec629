import Derived.Test.YtkgjmejgkffbdaaGreatDoorRef7K
/- The reference of layer 7 (tierceref07): Keep, Commit, Count. -/
set_option linter.unusedVariables false
namespace Go.Proofs.YtkgjmejgkffbdaaGreatDoor
open Go.RowKit

set_option maxHeartbeats 1000000 in
theorem r7Keep {A : Ad} {R : R7} {n : Nat} {K F : Nat → Bool} {L : Nat → Option Nat} {h : Hd} {w : World} (k : IsR7 R n K F L h w) (h1 : 1 ≤ n) (hn : n ≤ 512) (b : Option Addr) (cap : Nat) (l : List Int) (hi : IntsIn A w b l) (hb : ∀ g off, b = some ⟨g, off, none⟩ → 0 < l.length → ¬ R.has g) :
    Calls Tryz.prog 22 #[.pointer (some ⟨R.u, 0, none⟩), .slice b l.length cap] w fun e w' => e = .returned (.tuple #[]) ∧ IsR7 R n (kepK l K) (kepF l F) L h w' ∧ FrR R w w' := by
  obtain ⟨H, hH⟩ : ∃ H : Nat → Bool, H = fun q : Nat => decide ((q : Int) ∈ l) := ⟨_, rfl⟩
  obtain ⟨G, hG⟩ : ∃ G : Nat → Bool, G = fun q => F q && !decide ((q : Int) ∈ l) := ⟨_, rfl⟩
  have hfin : ∀ W, IsR7 R n (mixR n H K) (mixR n G F) L h W → IsR7 R n (kepK l K) (kepF l F) L h W := fun W r => r.congr (fun q hq => by rw [mixR_all n H K q hq, hH]; rfl) fun q hq => by
    rw [mixR_all n G F q hq, hG]
    rfl
  have hm : (n : Int) ≤ 512 := by omega
  have hC := r7inV (cap := cap) hi hb
  obtain ⟨ll, hll⟩ : ∃ ll, l.length = ll := ⟨_, rfl⟩
  rw [hll] at hC
  rw [hll]
  have r0 : IsR7 R n (mixR 1 H K) (mixR 1 G F) L h w ∧ FrR R w w := ⟨by rw [mixR_one, mixR_one]; exact k, .refl _ _⟩
  have HFIN := Lib.hid hfin; have HC := Lib.hid hC; have HR0 := Lib.hid r0; have HG := Lib.hid hG; have HH := Lib.hid hH
  clear hfin hC r0 hG hH hb hi k hll
  go_enter Tryz.func22, Tryz.ntmps22
  go_wp2_with fail
  go_loopw [4] (fun c wr => ∃ (j : Nat) (V : World), V = wr ∧ 1 ≤ j ∧ j ≤ n ∧ c = .int .i64 j ∧ Hid (IsR7 R n (mixR j H K) (mixR j G F) L h V ∧ FrR R w V)) (fun c _ => n - (RowKit.intOf c).toNat)
  case atStart => exact ⟨1, _, rfl, Nat.le_refl _, h1, rfl, HR0⟩
  case round =>
    obtain ⟨j, V, rfl, hj1, hj, rfl, HJ⟩ := hrel
    clear HR0
    have d0 : (0 : Int) ≤ (j : Int) := by omega
    have c0 := HJ.out.1.c0
    by_cases hlt : j < n
    · have d1 : (j : Int) < (n : Int) := by omega
      have c1 := HJ.out.1.c1
      have e0 := HJ.out.1.ak j hlt
      rw [mixR_self] at e0
      have z0 := HJ.out.1.hk.fz j
      have HCJ := Lib.hid (HC.out V HJ.out.2 j)
      have hHj : H j = decide ((j : Int) ∈ l) := by rw [HH.out]
      have hGj : G j = (F j && !decide ((j : Int) ∈ l)) := by rw [HG.out]
      have hset : IsR7 R n (mixR (j + 1) H K) (mixR j G F) L h (V.setCell ⟨R.k, j, none⟩ (.bool (H j))).drew ∧ FrR R w (V.setCell ⟨R.k, j, none⟩ (.bool (H j))).drew :=
        ⟨by rw [← mixR_succ j hj1 H K]; exact (HJ.out.1.setK j (H j)).drew, (HJ.out.2.setCell (p := ⟨R.k, j, none⟩) (by simp [R7.has]) _).drew⟩
      rw [hHj] at hset
      obtain ⟨kj, hkj⟩ : ∃ kj, K j = kj := ⟨_, rfl⟩
      obtain ⟨ij, hij⟩ : ∃ ij, decide ((j : Int) ∈ l) = ij := ⟨_, rfl⟩
      rw [hkj] at e0
      rw [hij] at HCJ hset hGj hHj
      have HS := Lib.hid hset
      have HGJ := Lib.hid (And.intro hHj hGj)
      clear hset hGj hHj hkj hij HJ HC
      go_wp2_with fail
      go_region_law (first | (go_simp; go_at_call 44; refine (HCJ.out _ (by first | exact .inl rfl | exact .inr rfl)).mono ?_; rintro e w' ⟨rfl, rfl⟩))
      all_goals
        obtain ⟨W, hW⟩ : ∃ W, (V.setCell ⟨R.k, j, none⟩ (.bool ij)).drew = W := ⟨_, rfl⟩
        have hs := HS.out
        rw [hW] at hs ⊢
        clear hW HS HCJ e0 z0 c0 c1
        have c0 := hs.1.c0; have c1 := hs.1.c1; have c2 := hs.1.c2
        have e0 := hs.1.ak j hlt
        have e1 := hs.1.af j hlt
        have z1 := hs.1.hf.fz j
        rw [show mixR (j + 1) H K j = ij from (mixR_at j hj1 H K).trans HGJ.out.1] at e0
        rw [mixR_self] at e1
        have hset : IsR7 R n (mixR (j + 1) H K) (mixR (j + 1) G F) L h (W.setCell ⟨R.f, j, none⟩ (.bool (G j))).drew ∧ FrR R w (W.setCell ⟨R.f, j, none⟩ (.bool (G j))).drew :=
          ⟨by rw [← mixR_succ j hj1 G F]; exact (hs.1.setF j (G j)).drew, (hs.2.setCell (p := ⟨R.f, j, none⟩) (by simp [R7.has]) _).drew⟩
        rw [HGJ.out.2] at hset
        obtain ⟨fj, hfj⟩ : ∃ fj, F j = fj := ⟨_, rfl⟩
        rw [hfj] at e1 hset
        have HS := Lib.hid hset
        clear hset hs hfj HGJ
        cases fj with
        | true =>
          rw [Bool.true_and] at HS
          go_wp2_with fail
          go_region
          all_goals
            clear e0 e1 c0 c1 c2 z1
            go_wp2_with fail
            go_roundw
            case rel => exact ⟨j + 1, _, rfl, by omega, by omega, by go_num, HS⟩
            case measure => simp [RowKit.intOf]; omega
        | false =>
          rw [Bool.false_and] at HS
          go_wp2_with fail
          go_region
          all_goals
            clear e0 e1 c0 c1 c2 z1
            go_wp2_with fail
            go_roundw
            case rel => exact ⟨j + 1, _, rfl, by omega, by omega, by go_num, HS⟩
            case measure => simp [RowKit.intOf]; omega
    · obtain rfl : j = n := by omega
      have HX := Lib.hid (And.intro (HFIN.out V HJ.out.1) HJ.out.2)
      clear HJ HC HFIN
      go_wp2_with fail
      go_end0
      exact ⟨rfl, HX.out⟩

/-- What Commit leaves. -/
def comF (F : Nat → Bool) : Nat → Bool := fun q => if q = 0 then F 0 else false

set_option maxHeartbeats 1000000 in
theorem r7Commit {A : Ad} {R : R7} {n : Nat} {K F : Nat → Bool} {L : Nat → Option Nat} {h : Hd} {w : World} (k : IsR7 R n K F L h w) (h1 : 1 ≤ n) (hn : n ≤ 512) (h' : Hd) (b : Option Addr) (cap : Nat) (l : List Int) (hi : IntsIn A w b l) (hb : ∀ g off, b = some ⟨g, off, none⟩ → 0 < l.length → ¬ R.has g) :
    Calls Tryz.prog 18 #[.pointer (some ⟨R.u, 0, none⟩), headV h', .slice b l.length cap] w fun e w' => e = .returned (.tuple #[]) ∧ IsR7 R n (kepK l K) (comF F) L h' w' ∧ FrR R w w' := by
  obtain ⟨H, hH⟩ : ∃ H : Nat → Bool, H = fun q : Nat => decide ((q : Int) ∈ l) := ⟨_, rfl⟩
  obtain ⟨G, hG⟩ : ∃ G : Nat → Bool, G = fun q => false := ⟨_, rfl⟩
  have hfin : ∀ W, IsR7 R n (mixR n H K) (mixR n G F) L h' W → IsR7 R n (kepK l K) (comF F) L h' W := fun W r => r.congr (fun q hq => by rw [mixR_all n H K q hq, hH]; rfl) fun q hq => by
    rw [mixR_all n G F q hq, hG]
    rfl
  have hm : (n : Int) ≤ 512 := by omega
  have hC := r7inV (cap := cap) hi hb
  obtain ⟨ll, hll⟩ : ∃ ll, l.length = ll := ⟨_, rfl⟩
  rw [hll] at hC
  rw [hll]
  have hk0 : KeptIn (· < w.heap.size) w (w.alloc (.cells #[.int .u64 h'.gen, .int .i64 h'.root, .int .i64 h'.slow, .int .i64 h'.fast, .int .i64 h'.chunk] 39)) := (KeptIn.refl _ w).alloc (fun _ h => h) _
  have k0 := k.old hk0
  have r0 := k0.putH h'
  have hf0 : FrR R w (((((((w.alloc (.cells #[.int .u64 h'.gen, .int .i64 h'.root, .int .i64 h'.slow, .int .i64 h'.fast, .int .i64 h'.chunk] 39))).setCell ⟨R.u, 4, none⟩ (.int .u64 h'.gen)).setCell ⟨R.u, 5, none⟩ (.int .i64 h'.root)).setCell ⟨R.u, 6, none⟩ (.int .i64 h'.slow)).setCell ⟨R.u, 7, none⟩ (.int .i64 h'.fast)).setCell ⟨R.u, 8, none⟩ (.int .i64 h'.chunk)) :=
    (((((hk0.mono fun _ hj => hj.1).setCell (p := ⟨R.u, 4, none⟩) (by simp [R7.has]) _).setCell (p := ⟨R.u, 5, none⟩) (by simp [R7.has]) _).setCell (p := ⟨R.u, 6, none⟩) (by simp [R7.has]) _).setCell (p := ⟨R.u, 7, none⟩) (by simp [R7.has]) _).setCell (p := ⟨R.u, 8, none⟩) (by simp [R7.has]) _
  obtain ⟨B, hB⟩ : ∃ B, w.heap.size = B := ⟨_, rfl⟩
  have hbx := heap_alloc_new w (.cells #[.int .u64 h'.gen, .int .i64 h'.root, .int .i64 h'.slow, .int .i64 h'.fast, .int .i64 h'.chunk] 39)
  rw [hB] at hbx
  obtain ⟨W0, hW0⟩ : ∃ W0, w.alloc (.cells #[.int .u64 h'.gen, .int .i64 h'.root, .int .i64 h'.slow, .int .i64 h'.fast, .int .i64 h'.chunk] 39) = W0 := ⟨_, rfl⟩
  rw [hW0] at hbx k0 r0 hf0
  have b0 : W0.cell? ⟨B, 0, none⟩ = some (.int .u64 h'.gen) := by simp [World.cell?, hbx]
  have b1 : W0.cell? ⟨B, 1, none⟩ = some (.int .i64 h'.root) := by simp [World.cell?, hbx]
  have b2 : W0.cell? ⟨B, 2, none⟩ = some (.int .i64 h'.slow) := by simp [World.cell?, hbx]
  have b3 : W0.cell? ⟨B, 3, none⟩ = some (.int .i64 h'.fast) := by simp [World.cell?, hbx]
  have b4 : W0.cell? ⟨B, 4, none⟩ = some (.int .i64 h'.chunk) := by simp [World.cell?, hbx]
  have c4 := k0.c4; have c5 := k0.c5; have c6 := k0.c6; have c7 := k0.c7; have c8 := k0.c8
  have f4 := k0.fu 4; have f5 := k0.fu 5; have f6 := k0.fu 6; have f7 := k0.fu 7; have f8 := k0.fu 8
  obtain ⟨W1, hW1⟩ : ∃ W1, (((((W0.setCell ⟨R.u, 4, none⟩ (.int .u64 h'.gen)).setCell ⟨R.u, 5, none⟩ (.int .i64 h'.root)).setCell ⟨R.u, 6, none⟩ (.int .i64 h'.slow)).setCell ⟨R.u, 7, none⟩ (.int .i64 h'.fast)).setCell ⟨R.u, 8, none⟩ (.int .i64 h'.chunk)) = W1 := ⟨_, rfl⟩
  rw [hW1] at r0 hf0
  have r1 : IsR7 R n (mixR 1 H K) (mixR 1 G F) L h' W1 ∧ FrR R w W1 := ⟨by rw [mixR_one, mixR_one]; exact r0, hf0⟩
  have HFIN := Lib.hid hfin; have HC := Lib.hid hC; have HR0 := Lib.hid r1; have HG := Lib.hid hG; have HH := Lib.hid hH; have HW0 := Lib.hid hW0; have HW1 := Lib.hid hW1; have HB := Lib.hid hB
  unfold headV
  clear hfin hC r0 r1 hf0 hG hH hb hi k hll hk0 k0 hW0 hW1 hB hbx
  go_enter Tryz.func18, Tryz.ntmps18
  go_upto_region 1 with fail
  rw [HW0.out, HB.out]
  go_wp2_with fail
  rw [HW1.out]
  clear b0 b1 b2 b3 b4 c4 c5 c6 c7 c8 f4 f5 f6 f7 f8
  go_loopw [6] (fun c wr => ∃ (j : Nat) (V : World), V = wr ∧ 1 ≤ j ∧ j ≤ n ∧ c = .int .i64 j ∧ Hid (IsR7 R n (mixR j H K) (mixR j G F) L h' V ∧ FrR R w V)) (fun c _ => n - (RowKit.intOf c).toNat)
  case atStart => exact ⟨1, _, rfl, Nat.le_refl _, h1, rfl, HR0⟩
  case round =>
    obtain ⟨j, V, rfl, hj1, hj, rfl, HJ⟩ := hrel
    clear HR0 HW0 HW1 HB
    have d0 : (0 : Int) ≤ (j : Int) := by omega
    have c0 := HJ.out.1.c0
    by_cases hlt : j < n
    · have d1 : (j : Int) < (n : Int) := by omega
      have c1 := HJ.out.1.c1
      have e0 := HJ.out.1.ak j hlt
      rw [mixR_self] at e0
      have z0 := HJ.out.1.hk.fz j
      have HCJ := Lib.hid (HC.out V HJ.out.2 j)
      have hHj : H j = decide ((j : Int) ∈ l) := by rw [HH.out]
      have hGj : G j = false := by rw [HG.out]
      have hset : IsR7 R n (mixR (j + 1) H K) (mixR j G F) L h' (V.setCell ⟨R.k, j, none⟩ (.bool (H j))).drew ∧ FrR R w (V.setCell ⟨R.k, j, none⟩ (.bool (H j))).drew :=
        ⟨by rw [← mixR_succ j hj1 H K]; exact (HJ.out.1.setK j (H j)).drew, (HJ.out.2.setCell (p := ⟨R.k, j, none⟩) (by simp [R7.has]) _).drew⟩
      rw [hHj] at hset
      obtain ⟨kj, hkj⟩ : ∃ kj, K j = kj := ⟨_, rfl⟩
      obtain ⟨ij, hij⟩ : ∃ ij, decide ((j : Int) ∈ l) = ij := ⟨_, rfl⟩
      rw [hkj] at e0
      rw [hij] at HCJ hset
      have HS := Lib.hid hset
      have HGJ := Lib.hid hGj
      clear hset hGj hHj hkj hij HJ HC
      go_wp2_with fail
      go_region_law (first | (go_simp; go_at_call 44; refine (HCJ.out _ (by first | exact .inl rfl | exact .inr rfl)).mono ?_; rintro e w' ⟨rfl, rfl⟩))
      all_goals
        obtain ⟨W, hW⟩ : ∃ W, (V.setCell ⟨R.k, j, none⟩ (.bool ij)).drew = W := ⟨_, rfl⟩
        have hs := HS.out
        rw [hW] at hs ⊢
        clear hW HS HCJ e0 z0 c0 c1
        have c2 := hs.1.c2
        have e1 := hs.1.af j hlt
        have z1 := hs.1.hf.fz j
        rw [mixR_self] at e1
        have hset : IsR7 R n (mixR (j + 1) H K) (mixR (j + 1) G F) L h' (W.setCell ⟨R.f, j, none⟩ (.bool (G j))) ∧ FrR R w (W.setCell ⟨R.f, j, none⟩ (.bool (G j))) :=
          ⟨by rw [← mixR_succ j hj1 G F]; exact hs.1.setF j (G j), hs.2.setCell (p := ⟨R.f, j, none⟩) (by simp [R7.has]) _⟩
        rw [HGJ.out] at hset
        obtain ⟨fj, hfj⟩ : ∃ fj, F j = fj := ⟨_, rfl⟩
        rw [hfj] at e1
        have HS := Lib.hid hset
        clear hset hs hfj HGJ
        go_wp2_with fail
        go_roundw
        case rel => exact ⟨j + 1, _, rfl, by omega, by omega, by go_num, HS⟩
        case measure => simp [RowKit.intOf]; omega
    · obtain rfl : j = n := by omega
      have HX := Lib.hid (And.intro (HFIN.out V HJ.out.1) HJ.out.2)
      clear HJ HC HFIN
      go_wp2_with fail
      go_end0
      exact ⟨rfl, HX.out⟩

theorem r7Count {R : R7} {n : Nat} {K F : Nat → Bool} {L : Nat → Option Nat} {h : Hd} {w : World} (k : IsR7 R n K F L h w) (h1 : 1 ≤ n) (hn : n ≤ 512) :
    Calls Tryz.prog 23 #[.pointer (some ⟨R.u, 0, none⟩)] w fun e w' => e = .returned (.tuple #[.int .i64 (cntB (fun q => !F q && !K q) n : Nat), .int .i64 (cntB F n : Nat)]) ∧ w = w' := by
  have hm : (n : Int) ≤ 512 := by omega
  obtain ⟨x, hx⟩ : ∃ x, cntB (fun q => !F q && !K q) n = x := ⟨_, rfl⟩
  obtain ⟨y, hy⟩ : ∃ y, cntB F n = y := ⟨_, rfl⟩
  rw [hx, hy]
  have HK := Lib.hid k; have HX := Lib.hid hx; have HY := Lib.hid hy
  have c0 := k.c0; have c1 := k.c1; have c2 := k.c2
  clear k hx hy
  go_enter Tryz.func23, Tryz.ntmps23
  go_wp2_with fail
  go_loopw [4, 5, 6] (fun a b c wr => ∃ (j s t : Nat) (V : World), V = wr ∧ wr = w ∧ 1 ≤ j ∧ j ≤ n ∧ a = .int .i64 s ∧ b = .int .i64 t ∧ c = .int .i64 j ∧ s ≤ j ∧ t ≤ j ∧ Hid (cntB (fun q => !F q && !K q) j = s ∧ cntB F j = t)) (fun _ _ c _ => n - (RowKit.intOf c).toNat)
  case atStart => exact ⟨1, 0, 0, _, rfl, by trivial, Nat.le_refl _, h1, rfl, rfl, rfl, by omega, by omega, Lib.hid ⟨cntB_one _ _ (Nat.le_refl _), cntB_one _ _ (Nat.le_refl _)⟩⟩
  case round =>
    obtain ⟨j, s, t, V, rfl, rfl, hj1, hj, rfl, rfl, rfl, hs, ht, HJ⟩ := hrel
    have d0 : (0 : Int) ≤ (j : Int) := by omega
    by_cases hlt : j < n
    · have d1 : (j : Int) < (n : Int) := by omega
      have e0 := HK.out.ak j hlt
      have e1 := HK.out.af j hlt
      have p1 := cntB_succ (fun q => !F q && !K q) j
      have p2 := cntB_succ F j
      rw [decide_eq_true hj1, Bool.true_and, HJ.out.1] at p1
      rw [decide_eq_true hj1, Bool.true_and, HJ.out.2] at p2
      obtain ⟨kj, hkj⟩ : ∃ kj, K j = kj := ⟨_, rfl⟩
      obtain ⟨fj, hfj⟩ : ∃ fj, F j = fj := ⟨_, rfl⟩
      rw [hkj] at e0
      rw [hfj] at e1 p2
      simp only [hkj, hfj] at p1
      have s0 : (s : Int) ≤ 512 := by omega
      have t0 : (t : Int) ≤ 512 := by omega
      clear HJ hkj hfj
      cases fj with
      | true =>
        simp only [Bool.not_true, Bool.false_and, if_true] at p1 p2
        have HJ2 : Hid (cntB (fun q => !F q && !K q) (j + 1) = s ∧ cntB F (j + 1) = t + 1) := Lib.hid ⟨by simpa using p1, p2⟩
        clear p1 p2
        go_wp2_with fail
        go_roundw
        case rel => exact ⟨j + 1, s, t + 1, _, rfl, by trivial, by omega, by omega, rfl, by go_num, by go_num, by omega, by omega, HJ2⟩
        case measure => simp [RowKit.intOf]; omega
      | false =>
        cases kj with
        | true =>
          have HJ2 : Hid (cntB (fun q => !F q && !K q) (j + 1) = s ∧ cntB F (j + 1) = t) := Lib.hid ⟨by simpa using p1, by simpa using p2⟩
          clear p1 p2
          go_wp2_with fail
          go_roundw
          case rel => exact ⟨j + 1, s, t, _, rfl, by trivial, by omega, by omega, rfl, rfl, by go_num, by omega, by omega, HJ2⟩
          case measure => simp [RowKit.intOf]; omega
        | false =>
          have HJ2 : Hid (cntB (fun q => !F q && !K q) (j + 1) = s + 1 ∧ cntB F (j + 1) = t) := Lib.hid ⟨by simpa using p1, by simpa using p2⟩
          clear p1 p2
          go_wp2_with fail
          go_roundw
          case rel => exact ⟨j + 1, s + 1, t, _, rfl, by trivial, by omega, by omega, by go_num, rfl, by go_num, by omega, by omega, HJ2⟩
          case measure => simp [RowKit.intOf]; omega
    · obtain rfl : j = n := by omega
      have HA : Hid (x = s ∧ y = t) := Lib.hid ⟨by rw [← HX.out, HJ.out.1], by rw [← HY.out, HJ.out.2]⟩
      clear HJ
      go_wp2_with fail
      go_ret2
      obtain ⟨rfl, rfl⟩ := HA.out
      exact ⟨rfl, rfl⟩

end Go.Proofs.YtkgjmejgkffbdaaGreatDoor
