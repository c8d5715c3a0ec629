/- The document's book: Alone, Free. -/
import Derived.Test.YtononiedecpllaaRs13
import Derived.Test.YtononiedecpllaaOh13
set_option linter.unusedVariables false
namespace Go.Proofs.Ytononiedecpllaa
open Go.RowKit

/-- The document's book at block ub: its two rows. -/
def RB (B ub : Nat) (L K : List On) (W : World) : Prop := B ≤ ub ∧ ∃ v1 v2, W.heap[ub]? = some (.cells #[v1, v2] 29 (0, 0)) ∧ RowN W B v1 L ∧ RowN W B v2 K
section
variable {B ub : Nat} {L K : List On} {W W' : World}
theorem RB.lt (h : RB B ub L K W) : ub < W.heap.size := by
  obtain ⟨_, v1, v2, h1, _⟩ := h
  exact (Array.getElem?_eq_some_iff.1 h1).1
theorem RB.kept {X : Nat → Prop} (h : RB B ub L K W) (hk : KeptIn X W W') (hu : X ub) (hX : ∀ g cur, W.heap[g]? = some (.cells cur 35 (0, 0)) → X g) : RB B ub L K W' := by
  obtain ⟨h0, v1, v2, h1, h2, h3⟩ := h
  exact ⟨h0, v1, v2, (hk.block ub hu).trans h1, h2.kept hk fun g hg => by obtain ⟨cur, hc⟩ := h2.typ hg; exact hX g cur hc, h3.kept hk fun g hg => by obtain ⟨cur, hc⟩ := h3.typ hg; exact hX g cur hc⟩
theorem RB.old (h : RB B ub L K W) (hk : KeptIn (· < W.heap.size) W W') : RB B ub L K W' :=
  h.kept hk h.lt fun g cur hc => (Array.getElem?_eq_some_iff.1 hc).1
theorem RB.cells (h : RB B ub L K W) : ∃ a1 c1 a2 c2, W.heap[ub]? = some (.cells #[.slice a1 L.length c1, .slice a2 K.length c2] 29 (0, 0)) ∧ RowN W B (.slice a1 L.length c1) L ∧ RowN W B (.slice a2 K.length c2) K ∧
    W.cell? ⟨ub, 0, none⟩ = some (.slice a1 L.length c1) ∧ W.cell? ⟨ub, 1, none⟩ = some (.slice a2 K.length c2) := by
  obtain ⟨h0, v1, v2, h1, h2, h3⟩ := h
  obtain ⟨a1, c1, rfl, _⟩ := h2.shape
  obtain ⟨a2, c2, rfl, _⟩ := h3.shape
  exact ⟨a1, c1, a2, c2, h1, h2, h3, by simp [World.cell?, h1], by simp [World.cell?, h1]⟩
end

theorem intEq (n : Nat) (k : Nat) (h : n ≠ k) : ((n : Int) == (k : Int)) = false := by rw [beq_eq_false_iff_ne]; omega


set_option maxHeartbeats 1000000 in
set_option maxRecDepth 100000 in
theorem rAlone {B ub : Nat} {L K : List On} {w : World} (H : RB B ub L K w) (c : Int) (o : Ow) (hl : L.length ≤ 1000) (hk : K.length ≤ 1000) :
    Calls Try.prog 18 #[.pointer (some ⟨ub, 0, none⟩), .int .i64 c, ownV o] w fun e w' => e = .returned (.bool (aloneB (ofN L) (ofN K) c o)) ∧ KeptIn (· < w.heap.size) w w' := by
  obtain ⟨W, hW⟩ : ∃ W, w.alloc (.cells #[.int .i64 o.vol, .int .i64 o.bir, .int .i64 o.pos] 31) = W := ⟨_, rfl⟩
  have hkk : KeptIn (· < w.heap.size) w W := by rw [← hW]; exact (KeptIn.refl _ w).alloc (fun _ h => h) _
  have hb : BoxO w.heap.size o W := by rw [← hW]; exact BoxO.new w o
  have H1 := H.old hkk
  obtain ⟨a1, c1, a2, c2, _, r1, r2, d1, d2⟩ := H1.cells
  have C1 := Lib.hid (rOf a1 c1 L c B W r1 hl)
  have C2 := Lib.hid fun V (hV : KeptIn (· < W.heap.size) W V) => rOf a2 c2 K c B V (r2.old hV) hk
  obtain ⟨t, ht⟩ : ∃ t, aloneB (ofN L) (ofN K) c o = t := ⟨_, rfl⟩
  rw [ht]
  have HT := Lib.hid ht
  have HW := Lib.hid hW
  have HK := Lib.hid (And.intro hkk hb)
  have HD : Hid (∀ V, KeptIn (· < W.heap.size) W V → V.cell? ⟨ub, 1, none⟩ = some (.slice a2 K.length c2)) := Lib.hid fun V hV => (World.cell?_of_block (a := ⟨ub, 1, none⟩) (hV.block ub H1.lt)).trans d2
  obtain ⟨bx, hbx⟩ : ∃ bx, w.heap.size = bx := ⟨_, rfl⟩
  rw [hbx] at HK
  have HBX := Lib.hid hbx
  obtain ⟨n1, hn1⟩ : ∃ n, L.length = n := ⟨_, rfl⟩
  obtain ⟨n2, hn2⟩ : ∃ n, K.length = n := ⟨_, rfl⟩
  rw [hn1] at C1 d1
  rw [hn2] at C2 HD
  unfold ownV
  clear H H1 hW hkk hb ht r1 r2 d2 hbx hl hk hn1 hn2
  go_enter Try.func18, Try.ntmps18
  go_upto_region 1 with fail
  rw [HW.out, HBX.out]
  go_wp2_with fail
  refine C1.out.mono ?_
  rintro e V1 hR
  unfold CloneO at hR
  obtain ⟨v1, rfl, hr1, hk1⟩ := hR
  obtain ⟨b1, q1, rfl, hq1⟩ := hr1.shape
  have d3 := (HD.out V1 hk1)
  have HC2 := Lib.hid (C2.out V1 hk1)
  have HR1 := Lib.hid (And.intro hr1 hk1)
  obtain ⟨n3, hn3⟩ : ∃ n, (ofN L c).length = n := ⟨_, rfl⟩
  have HN3 := Lib.hid hn3
  rw [hn3] at hq1 HR1 ⊢
  clear C1 C2 HD hr1 hk1 hn3 d1
  go_wp2_with fail
  refine HC2.out.mono ?_
  rintro e V2 hR
  unfold CloneO at hR
  obtain ⟨v2, rfl, hr2, hk2⟩ := hR
  obtain ⟨b2, q2, rfl, hq2⟩ := hr2.shape
  obtain ⟨n4, hn4⟩ : ∃ n, (ofN K c).length = n := ⟨_, rfl⟩
  have HN4 := Lib.hid hn4
  have HR2 := Lib.hid (And.intro hr2 (And.intro (HR1.out.1.old hk2) ((HK.out.2.old HR1.out.2).old hk2).cells))
  have HKF : Hid (KeptIn (· < w.heap.size) w V2) := Lib.hid (by
    have h1 := HK.out.1
    rw [← HBX.out] at h1
    exact h1.on (HR1.out.2.on hk2))
  rw [hn4] at hq2 HR2 ⊢
  obtain ⟨s2, s0, s1⟩ := HR2.out.2.2
  have HRR := Lib.hid (And.intro HR2.out.1 HR2.out.2.1)
  clear HC2 hr2 hk2 hn4 d3 HK HR1 HW HR2
  generalize hF : ofN L c = F at *
  generalize hG : ofN K c = G at *
  have HEQ := Lib.hid fun (y : Ow) (V : World) => eqOw y o V
  unfold ownV at HEQ
  have HT2 : Hid ((decide (F = [o]) && (decide (n4 = 0) || decide (G = [o]))) = t) := Lib.hid (by
    have h := HT.out
    unfold aloneB at h
    rw [hF, hG, HN4.out] at h
    exact h)
  clear HT hF hG
  by_cases m1 : n3 = 1
  · obtain ⟨y, rfl⟩ := List.length_eq_one_iff.1 (HN3.out.trans m1)
    subst m1
    obtain ⟨g1, rfl, -, x0, x1, x2⟩ := HRR.out.2.at (i := 0) (o := y) rfl
    simp only [Nat.zero_mul, Nat.zero_add] at x0 x1 x2
    have z1 : (1 : Int) ≤ (q1 : Int) := by omega
    by_cases ey : y = o
    · have E1 := HEQ.out y
      rw [decide_eq_true ey] at E1
      have HT3 : Hid ((decide (n4 = 0) || decide (G = [o])) = t) := Lib.hid (by
        have h := HT2.out
        rw [ey] at h
        simpa using h)
      clear HT2 ey
      by_cases m0 : n4 = 0
      · subst m0
        obtain rfl : t = true := by rw [← HT3.out]; simp
        clear HT3
        go_wp2_with fail
        go_quiet (fail)
        go_wp2_with fail
        go_ret
        exact ⟨rfl, HKF.out.drewN _⟩
      · have z2 : ((n4 : Int) == 0) = false := intEq n4 0 m0
        by_cases m2 : n4 = 1
        · obtain ⟨z, rfl⟩ := List.length_eq_one_iff.1 (HN4.out.trans m2)
          subst m2
          obtain ⟨g2, rfl, -, y0, y1, y2⟩ := HRR.out.1.at (i := 0) (o := z) rfl
          simp only [Nat.zero_mul, Nat.zero_add] at y0 y1 y2
          have z3 : (1 : Int) ≤ (q2 : Int) := by omega
          have E2 := HEQ.out z
          obtain ⟨u, hu⟩ : ∃ u, decide (z = o) = u := ⟨_, rfl⟩
          rw [hu] at E2
          obtain rfl : u = t := by
            rw [← HT3.out, ← hu]
            simp
          clear HT3 hu m0
          cases u with
          | true =>
            go_wp2_with fail
            go_quiet (fail)
            go_wp2_with fail
            go_ret
            exact ⟨rfl, HKF.out.drewN _⟩
          | false =>
            go_wp2_with fail
            go_quiet (fail)
            go_wp2_with fail
            go_ret
            exact ⟨rfl, HKF.out.drewN _⟩
        · have z3 : ((n4 : Int) == 1) = false := intEq n4 1 m2
          obtain rfl : t = false := by
            rw [← HT3.out, decide_eq_false m0, decide_eq_false (fun h => m2 (by rw [← HN4.out, h]; rfl))]
            rfl
          clear HT3 m0 m2
          go_wp2_with fail
          go_quiet (fail)
          go_wp2_with fail
          go_ret
          exact ⟨rfl, HKF.out.drewN _⟩
    · have E1 := HEQ.out y
      rw [decide_eq_false ey] at E1
      obtain rfl : t = false := by
        rw [← HT2.out, decide_eq_false (fun h => ey (List.cons.inj h).1)]
        rfl
      clear HT2 ey
      go_wp2_with fail
      go_quiet (fail)
      go_wp2_with fail
      go_ret
      exact ⟨rfl, HKF.out.drewN _⟩
  · have z1 : ((n3 : Int) == 1) = false := intEq n3 1 m1
    obtain rfl : t = false := by
      rw [← HT2.out, decide_eq_false (fun h => m1 (by rw [← HN3.out, h]; rfl))]
      rfl
    clear HT2 m1
    go_wp2_with fail
    go_quiet (fail)
    go_wp2_with fail
    go_ret
    exact ⟨rfl, HKF.out.drewN _⟩

set_option maxHeartbeats 1000000 in
set_option maxRecDepth 100000 in
theorem rFree {B ub : Nat} {L K : List On} {w : World} (H : RB B ub L K w) (hl : L.length ≤ 1000) (hk : K.length ≤ 1000) :
    Calls Try.prog 21 #[.pointer (some ⟨ub, 0, none⟩)] w fun e w' => e = .returned (.int .i64 (freeN (ofN L) (ofN K))) ∧ KeptIn (· < w.heap.size) w w' := by
  obtain ⟨a1, c1, a2, c2, _, r1, r2, d1, d2⟩ := H.cells
  have C1 := Lib.hid fun c V (hV : KeptIn (· < w.heap.size) w V) => rOf a1 c1 L c B V (r1.old hV) hl
  have C2 := Lib.hid fun c V (hV : KeptIn (· < w.heap.size) w V) => rOf a2 c2 K c B V (r2.old hV) hk
  obtain ⟨r, hr⟩ : ∃ r, freeN (ofN L) (ofN K) = r := ⟨_, rfl⟩
  have HR : Hid (∀ s, FreeIs (ofN L) (ofN K) s → r = s) := Lib.hid fun s hs => by rw [← hr]; exact (freeN_is (ofN L) (ofN K)).uniq hs
  rw [hr]
  obtain ⟨n1, hn1⟩ : ∃ n, L.length = n := ⟨_, rfl⟩
  obtain ⟨n2, hn2⟩ : ∃ n, K.length = n := ⟨_, rfl⟩
  have HD : Hid (∀ V, KeptIn (· < w.heap.size) w V → V.cell? ⟨ub, 0, none⟩ = some (.slice a1 L.length c1) ∧ V.cell? ⟨ub, 1, none⟩ = some (.slice a2 K.length c2)) := Lib.hid fun V hV => ⟨(World.cell?_of_block (a := ⟨ub, 0, none⟩) (hV.block ub H.lt)).trans d1, (World.cell?_of_block (a := ⟨ub, 1, none⟩) (hV.block ub H.lt)).trans d2⟩
  rw [hn1] at C1 HD
  rw [hn2] at C2 HD
  clear hr H hl hk r1 r2 d1 d2 hn1 hn2
  go_enter Try.func21, Try.ntmps21
  go_wp2_with fail
  go_loopw [3] (fun c wr => ∃ (j : Nat) (V : World), V = wr ∧ 1 ≤ j ∧ j ≤ 1024 ∧ c = .int .i64 j ∧ Hid ((∀ d : Int, 1 ≤ d → d < j → ¬ (ofN L d = [] ∧ ofN K d = [])) ∧ KeptIn (· < w.heap.size) w V)) (fun c _ => 1024 - (RowKit.intOf c).toNat)
  case atStart => exact ⟨1, _, rfl, by omega, by omega, rfl, Lib.hid ⟨fun d h1 h2 => absurd h2 (by omega), KeptIn.refl _ _⟩⟩
  case round =>
    obtain ⟨j, V, rfl, hj1, hj, rfl, HJ⟩ := hrel
    by_cases hlt : j ≤ 1023
    · have d1 : (j : Int) ≤ 1023 := by omega
      have CA := Lib.hid (C1.out (j : Int) V HJ.out.2)
      obtain ⟨p0, -⟩ := HD.out V HJ.out.2
      go_wp2_with fail
      refine CA.out.mono ?_
      rintro e V1 hR
      unfold CloneO at hR
      obtain ⟨v1, rfl, hr1, hk1⟩ := hR
      obtain ⟨b1, q1, rfl, -⟩ := hr1.shape
      have HK1 := Lib.hid (HJ.out.2.on hk1)
      obtain ⟨n, hn⟩ : ∃ n, (ofN L (j : Int)).length = n := ⟨_, rfl⟩
      rw [hn]
      have HN := Lib.hid hn
      clear hr1 hk1 hn p0 CA
      by_cases hn0 : n = 0
      · subst hn0
        have CB := Lib.hid (C2.out (j : Int) V1 HK1.out)
        obtain ⟨-, p1⟩ := HD.out V1 HK1.out
        go_wp2_with fail
        refine CB.out.mono ?_
        rintro e V2 hR
        unfold CloneO at hR
        obtain ⟨v2, rfl, hr2, hk2⟩ := hR
        obtain ⟨b2, q2, rfl, -⟩ := hr2.shape
        have HK2 := Lib.hid (HK1.out.on hk2)
        obtain ⟨m, hm⟩ : ∃ m, (ofN K (j : Int)).length = m := ⟨_, rfl⟩
        rw [hm]
        have HM := Lib.hid hm
        clear hr2 hk2 hm p1 CB HK1
        by_cases hm0 : m = 0
        · subst hm0
          have hrj := HR.out (j : Int) (.inl ⟨by omega, by omega, ⟨List.length_eq_zero_iff.1 HN.out, List.length_eq_zero_iff.1 HM.out⟩, HJ.out.1⟩)
          have HRJ := Lib.hid hrj
          clear HJ HR hrj
          go_wp2_with fail
          go_ret
          exact ⟨by rw [HRJ.out]; rfl, HK2.out⟩
        · have HJ2 : Hid ((∀ d : Int, 1 ≤ d → d < (j + 1 : Nat) → ¬ (ofN L d = [] ∧ ofN K d = [])) ∧ KeptIn (· < w.heap.size) w V2) := Lib.hid ⟨fun d h1 h2 h3 => by
            by_cases hd : d = (j : Int)
            · rw [hd] at h3
              have := HM.out
              rw [h3.2] at this
              exact hm0 this.symm
            · exact HJ.out.1 d h1 (by omega) h3, HK2.out⟩
          have z1 : ((m : Int) == 0) = false := intEq m 0 hm0
          clear HJ hm0
          go_wp2_with fail
          go_roundw
          case rel => exact ⟨j + 1, _, rfl, by omega, by omega, by go_num, HJ2⟩
          case measure => simp [RowKit.intOf]; omega
      · have HJ2 : Hid ((∀ d : Int, 1 ≤ d → d < (j + 1 : Nat) → ¬ (ofN L d = [] ∧ ofN K d = [])) ∧ KeptIn (· < w.heap.size) w V1) := Lib.hid ⟨fun d h1 h2 h3 => by
          by_cases hd : d = (j : Int)
          · rw [hd] at h3
            have := HN.out
            rw [h3.1] at this
            exact hn0 this.symm
          · exact HJ.out.1 d h1 (by omega) h3, HK1.out⟩
        have z1 : ((n : Int) == 0) = false := intEq n 0 hn0
        clear HJ hn0
        go_wp2_with fail
        go_roundw
        case rel => exact ⟨j + 1, _, rfl, by omega, by omega, by go_num, HJ2⟩
        case measure => simp [RowKit.intOf]; omega
    · obtain rfl : j = 1024 := by omega
      have hrj := HR.out 0 (.inr ⟨rfl, fun c h1 h2 => HJ.out.1 c h1 (by omega)⟩)
      have HRJ := Lib.hid hrj
      have HK2 := Lib.hid HJ.out.2
      clear HJ HR hrj
      go_wp2_with fail
      go_ret
      exact ⟨by rw [HRJ.out]; rfl, HK2.out⟩

end Go.Proofs.Ytononiedecpllaa
