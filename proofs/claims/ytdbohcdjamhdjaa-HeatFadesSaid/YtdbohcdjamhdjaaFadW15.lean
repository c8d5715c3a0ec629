/- HeatFades of layer 15: the walk: it returns true for every input and writes nothing that was there. -/
import Derived.Test.YtdbohcdjamhdjaaHl15
import Derived.Test.YtdbohcdjamhdjaaArgs
import Derived.Test.YtdbohcdjamhdjaaNums
set_option linter.unusedVariables false
namespace Go.Proofs.Ytdbohcdjamhdjaa
open Go.RowKit Go.Maps

attribute [local go_sem high] run_max2f

/-- Heats of two chunks, the second no colder. -/
def Fd (f : Int → Nat) : Prop := (∀ x, x ≠ 1 → x ≠ 2 → f x = 0) ∧ f 1 ≤ f 2
theorem Fd.zero : Fd (fun _ => 0) := ⟨fun _ _ _ => rfl, Nat.le_refl _⟩
theorem Fd.two {f : Int → Nat} (h : Fd f) (n : Int) : Fd (tch (tch f 1 n) 2 n) := by
  refine ⟨fun x h1 h2 => ?_, ?_⟩
  · rw [tch_other _ _ h2, tch_other _ _ h1]; exact h.1 x h1 h2
  · rw [tch_other _ _ (by decide), tch_same _ _ (by decide) (by decide), tch_same _ _ (by decide) (by decide), tch_other _ _ (by decide)]
    exact tcv_mono n h.2
theorem Fd.more {f : Int → Nat} (h : Fd f) (hm : f 2 ≤ 1048576) (n : Int) : Fd (tch f 2 n) := by
  refine ⟨fun x h1 h2 => ?_, ?_⟩
  · rw [tch_other _ _ h2]; exact h.1 x h1 h2
  · rw [tch_other _ _ (by decide), tch_same _ _ (by decide) (by decide)]
    exact Nat.le_trans h.2 (tcv_up n hm)
theorem Fd.half {f : Int → Nat} (h : Fd f) : Fd (dcy f) := ⟨fun x h1 h2 => by unfold dcy; rw [h.1 x h1 h2], by have := h.2; unfold dcy; omega⟩
theorem Fd.sum {f : Int → Nat} (h : Fd f) : sumHt f = f 1 + f 2 := sum_two (by decide) (by decide) (by decide) (by decide) (by decide) h.1
theorem Fd.none {f : Int → Nat} (h : Fd f) (h2 : f 2 = 0) : sumHt f = 0 ∧ hots f = [] := by
  have h1 : f 1 = 0 := by have := h.2; omega
  refine ⟨by rw [h.sum, h1, h2], hots_eq (fun c hc => ?_) List.Pairwise.nil fun c => ⟨fun hc => (by cases hc), fun hc => ?_⟩⟩
  all_goals
    exfalso
    apply hc
    by_cases e1 : c = 1
    · rw [e1]; exact h1
    · by_cases e2 : c = 2
      · rw [e2]; exact h2
      · exact h.1 c e1 e2
theorem half_pow (x i : Nat) (h : x ≤ 1048576 / 2 ^ i) : x / 2 ≤ 1048576 / 2 ^ (i + 1) := by
  rw [Nat.pow_succ, ← Nat.div_div_eq_div_mul]
  exact Nat.div_le_div_right h
theorem max_wf (x : Int) (h : (Lit.int .i64 x).wf = true) : (Lit.int .i64 (max x 0)).wf = true := by
  rcases Int.le_total x 0 with h1 | h1
  · rw [Int.max_eq_right h1]; decide
  · rw [Int.max_eq_left h1]; exact h
theorem fd_num (x1 x2 : Nat) (h1 : x1 ≤ x2) (h2 : x2 ≤ 1048576) : ¬ (x2 : Int) < (x1 : Int) ∧ ¬ (x1 : Int) < 0 ∧ wrap64 ((x1 : Int) + (x2 : Int)) = (x1 : Int) + (x2 : Int) ∧ (0 : Int) ≤ (x1 : Int) ∧ (x1 : Int) ≤ 1048576 ∧ (0 : Int) ≤ (x2 : Int) ∧ (x2 : Int) ≤ 1048576 := by
  unfold wrap64; omega

theorem fd_half (x2 x3 : Nat) (h : x3 = x2 / 2) (h2 : x2 ≤ 1048576) : ¬ (x2 : Int) < (x3 : Int) ∧ wrap64 (2 * (x3 : Int)) = 2 * (x3 : Int) ∧ ¬ (x2 : Int) < 2 * (x3 : Int) ∧ (0 : Int) ≤ (x3 : Int) ∧ (x3 : Int) ≤ 1048576 ∧ ¬ x2 < x3 := by
  unfold wrap64; omega
set_option maxRecDepth 100000 in
set_option maxHeartbeats 4000000 in
theorem fadW15 (a1 : Option Addr) (len1 cap1 : Nat) (zs1 : List Int) (a2 : Option Addr) (len2 cap2 : Nat) (zs2 : List Int) (d : Int) (w : World) (w1 : IsRow .i64 w a1 len1 cap1 zs1) (w2 : IsRow .i64 w a2 len2 cap2 zs2) (wd : (Lit.int .i64 d).wf = true) :
    Calls Try.prog 5 #[.slice a1 len1 cap1, .slice a2 len2 cap2, .int .i64 d] w fun e w' => e = .returned (.bool true) ∧ KeptIn (· < w.heap.size) w w' := by
  have l1 := w1.len_le
  have l2 := w2.len_le
  unfold maxLen at l1 l2
  have b1 : (len1 : Int) ≤ 9223372036854775807 := by omega
  have b2 : (len2 : Int) ≤ 9223372036854775807 := by omega
  have WA := Lib.hid (And.intro w1 w2)
  clear w1 w2 l1 l2 wd
  go_enter Try.func5, Try.ntmps5
  go_wp2_with fail
  refine (awake15 w).mono ?_
  rintro e W1 ⟨rfl, k1⟩
  have HK1 := Lib.hid k1
  clear k1
  by_cases hl1 : 60 < len1
  · have d1 : (60 : Int) < (len1 : Int) := by omega
    clear hl1
    go_wp2_with fail
    go_ret
    exact ⟨rfl, HK1.out⟩
  by_cases hl2 : 60 < len2
  · have d1 : ¬ (60 : Int) < (len1 : Int) := by omega
    have d2 : (60 : Int) < (len2 : Int) := by omega
    clear hl1 hl2
    go_wp2_with fail
    go_ret
    exact ⟨rfl, HK1.out⟩
  have d1 : ¬ (60 : Int) < (len1 : Int) := by omega
  have d2 : ¬ (60 : Int) < (len2 : Int) := by omega
  have n60 : len1 ≤ 60 ∧ len2 ≤ 60 := by omega
  clear hl1 hl2
  go_wp2_with fail
  refine (htNew W1).mono ?_
  rintro e W2 hN
  obtain ⟨b, m, rfl, hH, -⟩ := HL.new hN
  have H0 : Hid (HL W1 b m (fun _ => 0) W2 ∧ Fd (fun _ => 0)) := Lib.hid ⟨hH, Fd.zero⟩
  clear hN hH d1 d2
  go_wp2_with fail
  go_loopw [8, 9] (fun i _ wr => ∃ (j : Nat) (f : Int → Nat) (V : World), V = wr ∧ j ≤ len1 ∧ i = .int .i64 (j : Int) ∧ Hid (HL W1 b m f V ∧ Fd f)) (fun i _ _ => len1 - (RowKit.intOf i).toNat)
  case atStart => exact ⟨0, _, _, rfl, Nat.zero_le _, rfl, H0⟩
  case round =>
    obtain ⟨j, f, V, rfl, hj, rfl, HJ⟩ := hrel
    clear H0
    have j0 : (0 : Int) ≤ (j : Int) := by omega
    by_cases hlt : j < len1
    · have j1 : (j : Int) < (len1 : Int) := by omega
      have j60 : (j : Int) < 60 := by omega
      have hk := HK1.out.on15 HJ.out.1.kept
      obtain ⟨g1, o1, rfl, hg1, hel1⟩ := WA.out.1.elem (by omega)
      obtain ⟨e0, wx⟩ := hel1 j hlt
      have c0 := (World.cell?_of_block (a := ⟨g1, o1 + j, none⟩) (hk.block g1 hg1)).trans e0
      obtain ⟨x, hx⟩ : ∃ x, zs1.getD j 0 = x := ⟨_, rfl⟩
      rw [hx] at c0 wx
      have wn := max_wf x wx
      obtain ⟨n, hn⟩ : ∃ n, max x 0 = n := ⟨_, rfl⟩
      rw [hn] at wn
      have C1 := Lib.hid (HJ.out.1.touch 1 n (by decide) wn)
      have HN := Lib.hid hn
      clear hx hel1 e0 hn hk wx
      go_wp2_with fail
      rw [HN.out]
      refine C1.out.mono ?_
      rintro e V1 hD
      obtain ⟨rfl, h1, -⟩ := hD
      have C2 := Lib.hid (h1.touch 2 n (by decide) wn)
      clear C1 h1 c0 HN wn
      go_wp2_with fail
      refine C2.out.mono ?_
      rintro e V2 hD
      obtain ⟨rfl, h2, -⟩ := hD
      have HF : Hid (HL W1 b m (tch (tch f 1 n) 2 n) V2 ∧ Fd (tch (tch f 1 n) 2 n)) := Lib.hid ⟨h2, HJ.out.2.two n⟩
      clear C2 h2 HJ
      generalize tch (tch f 1 n) 2 n = F at *
      by_cases hl2 : j < len2
      · have j2 : (j : Int) < (len2 : Int) := by omega
        have hk := HK1.out.on15 HF.out.1.kept
        obtain ⟨g2, o2, rfl, hg2, hel2⟩ := WA.out.2.elem (by omega)
        obtain ⟨e0, wx⟩ := hel2 j hl2
        have c0 := (World.cell?_of_block (a := ⟨g2, o2 + j, none⟩) (hk.block g2 hg2)).trans e0
        obtain ⟨x, hx⟩ : ∃ x, zs2.getD j 0 = x := ⟨_, rfl⟩
        rw [hx] at c0 wx
        by_cases hp : 0 < x
        · have C3 := Lib.hid (HF.out.1.touch 2 x (by decide) wx)
          clear hx hel2 e0 hk wx hl2
          go_wp2_with fail
          refine C3.out.mono ?_
          rintro e V3 hD
          obtain ⟨rfl, h3, -⟩ := hD
          have HF3 : Hid (HL W1 b m (tch F 2 x) V3 ∧ Fd (tch F 2 x)) := Lib.hid ⟨h3, HF.out.2.more (HF.out.1.bk.mx 2) x⟩
          clear C3 h3 HF c0 hp
          generalize tch F 2 x = G at *
          obtain ⟨F, rfl⟩ : ∃ F, F = G := ⟨_, rfl⟩
          obtain ⟨V2, rfl⟩ : ∃ V, V = V3 := ⟨_, rfl⟩
          have HF := HF3
          clear HF3
          go_wp2_with fail
          · have CD := Lib.hid HF.out.1.decay
            refine CD.out.mono ?_
            rintro e V8 hD
            obtain ⟨rfl, h8, -⟩ := hD
            have HF8 : Hid (HL W1 b m (dcy F) V8 ∧ Fd (dcy F)) := Lib.hid ⟨h8, HF.out.2.half⟩
            clear CD h8 HF
            generalize dcy F = F8 at *
            go_wp2_with fail
            obtain ⟨F, rfl⟩ : ∃ F, F = F8 := ⟨_, rfl⟩
            have HF := HF8
            clear HF8
            obtain ⟨x1, hx1⟩ : ∃ x1, F 1 = x1 := ⟨_, rfl⟩
            obtain ⟨x2, hx2⟩ : ∃ x2, F 2 = x2 := ⟨_, rfl⟩
            have C1 := Lib.hid (HF.out.1.of 1 (by decide))
            have C2 := Lib.hid (HF.out.1.of 2 (by decide))
            have CS := Lib.hid HF.out.1.sum
            have hx3 := HF.out.2.sum
            have hx4 := HF.out.2.2
            have hx5 := HF.out.1.bk.mx 2
            rw [hx1, hx2] at hx3 hx4
            rw [hx2] at hx5
            rw [hx1] at C1
            rw [hx2] at C2
            rw [hx3, Int.natCast_add] at CS
            obtain ⟨y1, y2, y3, y4, y5, y6, y7⟩ := fd_num x1 x2 hx4 hx5
            have HX := Lib.hid (And.intro hx1 hx2)
            clear hx1 hx2 hx3 hx4 hx5
            refine C2.out.mono ?_
            rintro e _ ⟨rfl, rfl⟩
            go_wp2_with fail
            refine C1.out.mono ?_
            rintro e _ ⟨rfl, rfl⟩
            go_wp2_with fail
            refine C1.out.mono ?_
            rintro e _ ⟨rfl, rfl⟩
            go_wp2_with fail
            refine CS.out.mono ?_
            rintro e V9 ⟨rfl, k9⟩
            have HF9 : Hid (HL W1 b m F V9 ∧ Fd F) := Lib.hid ⟨HF.out.1.old k9, HF.out.2⟩
            have C1' := Lib.hid (HF9.out.1.of 1 (by decide))
            have C2' := Lib.hid (HF9.out.1.of 2 (by decide))
            rw [HX.out.1] at C1'
            rw [HX.out.2] at C2'
            clear C1 C2 CS HF k9 HX
            go_wp2_with fail
            refine C1'.out.mono ?_
            rintro e _ ⟨rfl, rfl⟩
            go_wp2_with fail
            refine C2'.out.mono ?_
            rintro e _ ⟨rfl, rfl⟩
            clear C1' C2'
            go_wp2_with fail
            go_roundw
            case rel => exact ⟨j + 1, F, _, rfl, by omega, by go_num, HF9⟩
            case measure => simp only [RowKit.intOf]; omega
          · obtain ⟨x1, hx1⟩ : ∃ x1, F 1 = x1 := ⟨_, rfl⟩
            obtain ⟨x2, hx2⟩ : ∃ x2, F 2 = x2 := ⟨_, rfl⟩
            have C1 := Lib.hid (HF.out.1.of 1 (by decide))
            have C2 := Lib.hid (HF.out.1.of 2 (by decide))
            have CS := Lib.hid HF.out.1.sum
            have hx3 := HF.out.2.sum
            have hx4 := HF.out.2.2
            have hx5 := HF.out.1.bk.mx 2
            rw [hx1, hx2] at hx3 hx4
            rw [hx2] at hx5
            rw [hx1] at C1
            rw [hx2] at C2
            rw [hx3, Int.natCast_add] at CS
            obtain ⟨y1, y2, y3, y4, y5, y6, y7⟩ := fd_num x1 x2 hx4 hx5
            have HX := Lib.hid (And.intro hx1 hx2)
            clear hx1 hx2 hx3 hx4 hx5
            refine C2.out.mono ?_
            rintro e _ ⟨rfl, rfl⟩
            go_wp2_with fail
            refine C1.out.mono ?_
            rintro e _ ⟨rfl, rfl⟩
            go_wp2_with fail
            refine C1.out.mono ?_
            rintro e _ ⟨rfl, rfl⟩
            go_wp2_with fail
            refine CS.out.mono ?_
            rintro e V9 ⟨rfl, k9⟩
            have HF9 : Hid (HL W1 b m F V9 ∧ Fd F) := Lib.hid ⟨HF.out.1.old k9, HF.out.2⟩
            have C1' := Lib.hid (HF9.out.1.of 1 (by decide))
            have C2' := Lib.hid (HF9.out.1.of 2 (by decide))
            rw [HX.out.1] at C1'
            rw [HX.out.2] at C2'
            clear C1 C2 CS HF k9 HX
            go_wp2_with fail
            refine C1'.out.mono ?_
            rintro e _ ⟨rfl, rfl⟩
            go_wp2_with fail
            refine C2'.out.mono ?_
            rintro e _ ⟨rfl, rfl⟩
            clear C1' C2'
            go_wp2_with fail
            go_roundw
            case rel => exact ⟨j + 1, F, _, rfl, by omega, by go_num, HF9⟩
            case measure => simp only [RowKit.intOf]; omega
        · have hp1 : ¬ 0 < x := hp
          clear hx hel2 e0 hk wx hl2 hp
          go_wp2_with fail
          · have CD := Lib.hid HF.out.1.decay
            refine CD.out.mono ?_
            rintro e V8 hD
            obtain ⟨rfl, h8, -⟩ := hD
            have HF8 : Hid (HL W1 b m (dcy F) V8 ∧ Fd (dcy F)) := Lib.hid ⟨h8, HF.out.2.half⟩
            clear CD h8 HF
            generalize dcy F = F8 at *
            go_wp2_with fail
            obtain ⟨F, rfl⟩ : ∃ F, F = F8 := ⟨_, rfl⟩
            have HF := HF8
            clear HF8
            obtain ⟨x1, hx1⟩ : ∃ x1, F 1 = x1 := ⟨_, rfl⟩
            obtain ⟨x2, hx2⟩ : ∃ x2, F 2 = x2 := ⟨_, rfl⟩
            have C1 := Lib.hid (HF.out.1.of 1 (by decide))
            have C2 := Lib.hid (HF.out.1.of 2 (by decide))
            have CS := Lib.hid HF.out.1.sum
            have hx3 := HF.out.2.sum
            have hx4 := HF.out.2.2
            have hx5 := HF.out.1.bk.mx 2
            rw [hx1, hx2] at hx3 hx4
            rw [hx2] at hx5
            rw [hx1] at C1
            rw [hx2] at C2
            rw [hx3, Int.natCast_add] at CS
            obtain ⟨y1, y2, y3, y4, y5, y6, y7⟩ := fd_num x1 x2 hx4 hx5
            have HX := Lib.hid (And.intro hx1 hx2)
            clear hx1 hx2 hx3 hx4 hx5
            refine C2.out.mono ?_
            rintro e _ ⟨rfl, rfl⟩
            go_wp2_with fail
            refine C1.out.mono ?_
            rintro e _ ⟨rfl, rfl⟩
            go_wp2_with fail
            refine C1.out.mono ?_
            rintro e _ ⟨rfl, rfl⟩
            go_wp2_with fail
            refine CS.out.mono ?_
            rintro e V9 ⟨rfl, k9⟩
            have HF9 : Hid (HL W1 b m F V9 ∧ Fd F) := Lib.hid ⟨HF.out.1.old k9, HF.out.2⟩
            have C1' := Lib.hid (HF9.out.1.of 1 (by decide))
            have C2' := Lib.hid (HF9.out.1.of 2 (by decide))
            rw [HX.out.1] at C1'
            rw [HX.out.2] at C2'
            clear C1 C2 CS HF k9 HX
            go_wp2_with fail
            refine C1'.out.mono ?_
            rintro e _ ⟨rfl, rfl⟩
            go_wp2_with fail
            refine C2'.out.mono ?_
            rintro e _ ⟨rfl, rfl⟩
            clear C1' C2'
            go_wp2_with fail
            go_roundw
            case rel => exact ⟨j + 1, F, _, rfl, by omega, by go_num, HF9⟩
            case measure => simp only [RowKit.intOf]; omega
          · obtain ⟨x1, hx1⟩ : ∃ x1, F 1 = x1 := ⟨_, rfl⟩
            obtain ⟨x2, hx2⟩ : ∃ x2, F 2 = x2 := ⟨_, rfl⟩
            have C1 := Lib.hid (HF.out.1.of 1 (by decide))
            have C2 := Lib.hid (HF.out.1.of 2 (by decide))
            have CS := Lib.hid HF.out.1.sum
            have hx3 := HF.out.2.sum
            have hx4 := HF.out.2.2
            have hx5 := HF.out.1.bk.mx 2
            rw [hx1, hx2] at hx3 hx4
            rw [hx2] at hx5
            rw [hx1] at C1
            rw [hx2] at C2
            rw [hx3, Int.natCast_add] at CS
            obtain ⟨y1, y2, y3, y4, y5, y6, y7⟩ := fd_num x1 x2 hx4 hx5
            have HX := Lib.hid (And.intro hx1 hx2)
            clear hx1 hx2 hx3 hx4 hx5
            refine C2.out.mono ?_
            rintro e _ ⟨rfl, rfl⟩
            go_wp2_with fail
            refine C1.out.mono ?_
            rintro e _ ⟨rfl, rfl⟩
            go_wp2_with fail
            refine C1.out.mono ?_
            rintro e _ ⟨rfl, rfl⟩
            go_wp2_with fail
            refine CS.out.mono ?_
            rintro e V9 ⟨rfl, k9⟩
            have HF9 : Hid (HL W1 b m F V9 ∧ Fd F) := Lib.hid ⟨HF.out.1.old k9, HF.out.2⟩
            have C1' := Lib.hid (HF9.out.1.of 1 (by decide))
            have C2' := Lib.hid (HF9.out.1.of 2 (by decide))
            rw [HX.out.1] at C1'
            rw [HX.out.2] at C2'
            clear C1 C2 CS HF k9 HX
            go_wp2_with fail
            refine C1'.out.mono ?_
            rintro e _ ⟨rfl, rfl⟩
            go_wp2_with fail
            refine C2'.out.mono ?_
            rintro e _ ⟨rfl, rfl⟩
            clear C1' C2'
            go_wp2_with fail
            go_roundw
            case rel => exact ⟨j + 1, F, _, rfl, by omega, by go_num, HF9⟩
            case measure => simp only [RowKit.intOf]; omega
      · have j2 : ¬ (j : Int) < (len2 : Int) := by omega
        clear hl2
        go_wp2_with fail
        · have CD := Lib.hid HF.out.1.decay
          refine CD.out.mono ?_
          rintro e V8 hD
          obtain ⟨rfl, h8, -⟩ := hD
          have HF8 : Hid (HL W1 b m (dcy F) V8 ∧ Fd (dcy F)) := Lib.hid ⟨h8, HF.out.2.half⟩
          clear CD h8 HF
          generalize dcy F = F8 at *
          go_wp2_with fail
          obtain ⟨F, rfl⟩ : ∃ F, F = F8 := ⟨_, rfl⟩
          have HF := HF8
          clear HF8
          obtain ⟨x1, hx1⟩ : ∃ x1, F 1 = x1 := ⟨_, rfl⟩
          obtain ⟨x2, hx2⟩ : ∃ x2, F 2 = x2 := ⟨_, rfl⟩
          have C1 := Lib.hid (HF.out.1.of 1 (by decide))
          have C2 := Lib.hid (HF.out.1.of 2 (by decide))
          have CS := Lib.hid HF.out.1.sum
          have hx3 := HF.out.2.sum
          have hx4 := HF.out.2.2
          have hx5 := HF.out.1.bk.mx 2
          rw [hx1, hx2] at hx3 hx4
          rw [hx2] at hx5
          rw [hx1] at C1
          rw [hx2] at C2
          rw [hx3, Int.natCast_add] at CS
          obtain ⟨y1, y2, y3, y4, y5, y6, y7⟩ := fd_num x1 x2 hx4 hx5
          have HX := Lib.hid (And.intro hx1 hx2)
          clear hx1 hx2 hx3 hx4 hx5
          refine C2.out.mono ?_
          rintro e _ ⟨rfl, rfl⟩
          go_wp2_with fail
          refine C1.out.mono ?_
          rintro e _ ⟨rfl, rfl⟩
          go_wp2_with fail
          refine C1.out.mono ?_
          rintro e _ ⟨rfl, rfl⟩
          go_wp2_with fail
          refine CS.out.mono ?_
          rintro e V9 ⟨rfl, k9⟩
          have HF9 : Hid (HL W1 b m F V9 ∧ Fd F) := Lib.hid ⟨HF.out.1.old k9, HF.out.2⟩
          have C1' := Lib.hid (HF9.out.1.of 1 (by decide))
          have C2' := Lib.hid (HF9.out.1.of 2 (by decide))
          rw [HX.out.1] at C1'
          rw [HX.out.2] at C2'
          clear C1 C2 CS HF k9 HX
          go_wp2_with fail
          refine C1'.out.mono ?_
          rintro e _ ⟨rfl, rfl⟩
          go_wp2_with fail
          refine C2'.out.mono ?_
          rintro e _ ⟨rfl, rfl⟩
          clear C1' C2'
          go_wp2_with fail
          go_roundw
          case rel => exact ⟨j + 1, F, _, rfl, by omega, by go_num, HF9⟩
          case measure => simp only [RowKit.intOf]; omega
        · obtain ⟨x1, hx1⟩ : ∃ x1, F 1 = x1 := ⟨_, rfl⟩
          obtain ⟨x2, hx2⟩ : ∃ x2, F 2 = x2 := ⟨_, rfl⟩
          have C1 := Lib.hid (HF.out.1.of 1 (by decide))
          have C2 := Lib.hid (HF.out.1.of 2 (by decide))
          have CS := Lib.hid HF.out.1.sum
          have hx3 := HF.out.2.sum
          have hx4 := HF.out.2.2
          have hx5 := HF.out.1.bk.mx 2
          rw [hx1, hx2] at hx3 hx4
          rw [hx2] at hx5
          rw [hx1] at C1
          rw [hx2] at C2
          rw [hx3, Int.natCast_add] at CS
          obtain ⟨y1, y2, y3, y4, y5, y6, y7⟩ := fd_num x1 x2 hx4 hx5
          have HX := Lib.hid (And.intro hx1 hx2)
          clear hx1 hx2 hx3 hx4 hx5
          refine C2.out.mono ?_
          rintro e _ ⟨rfl, rfl⟩
          go_wp2_with fail
          refine C1.out.mono ?_
          rintro e _ ⟨rfl, rfl⟩
          go_wp2_with fail
          refine C1.out.mono ?_
          rintro e _ ⟨rfl, rfl⟩
          go_wp2_with fail
          refine CS.out.mono ?_
          rintro e V9 ⟨rfl, k9⟩
          have HF9 : Hid (HL W1 b m F V9 ∧ Fd F) := Lib.hid ⟨HF.out.1.old k9, HF.out.2⟩
          have C1' := Lib.hid (HF9.out.1.of 1 (by decide))
          have C2' := Lib.hid (HF9.out.1.of 2 (by decide))
          rw [HX.out.1] at C1'
          rw [HX.out.2] at C2'
          clear C1 C2 CS HF k9 HX
          go_wp2_with fail
          refine C1'.out.mono ?_
          rintro e _ ⟨rfl, rfl⟩
          go_wp2_with fail
          refine C2'.out.mono ?_
          rintro e _ ⟨rfl, rfl⟩
          clear C1' C2'
          go_wp2_with fail
          go_roundw
          case rel => exact ⟨j + 1, F, _, rfl, by omega, by go_num, HF9⟩
          case measure => simp only [RowKit.intOf]; omega
    · have j1 : ¬ (j : Int) < (len1 : Int) := by omega
      clear hlt
      have HJ2 : Hid (HL W1 b m f V ∧ Fd f ∧ f 2 ≤ 1048576 / 2 ^ 0) := Lib.hid ⟨HJ.out.1, HJ.out.2, by have := HJ.out.1.bk.mx 2; simpa using this⟩
      clear HJ
      go_wp2_with fail
      go_loopw [10, 11] (fun i _ wr => ∃ (t : Nat) (g : Int → Nat) (X : World), X = wr ∧ t ≤ 21 ∧ i = .int .i64 (t : Int) ∧ Hid (HL W1 b m g X ∧ Fd g ∧ g 2 ≤ 1048576 / 2 ^ t)) (fun i _ _ => 21 - (RowKit.intOf i).toNat)
      case atStart => exact ⟨0, _, _, rfl, Nat.zero_le _, rfl, HJ2⟩
      case round =>
        obtain ⟨t, g, X, rfl, ht, rfl, HX⟩ := hrel
        clear HJ2
        by_cases hlt : t < 21
        · have t1 : (t : Int) < 21 := by omega
          have t0 : (0 : Int) ≤ (t : Int) := by omega
          have C2 := Lib.hid (HX.out.1.of 2 (by decide))
          have CD := Lib.hid HX.out.1.decay
          obtain ⟨x2, hx2⟩ : ∃ x2, g 2 = x2 := ⟨_, rfl⟩
          have hx5 := HX.out.1.bk.mx 2
          rw [hx2] at hx5 C2
          have hd2 : dcy g 2 = x2 / 2 := by rw [← hx2]; rfl
          have HX9 : Hid (∀ X9, HL W1 b m (dcy g) X9 → HL W1 b m (dcy g) X9 ∧ Fd (dcy g) ∧ dcy g 2 ≤ 1048576 / 2 ^ (t + 1)) := Lib.hid fun X9 h => ⟨h, HX.out.2.1.half, by rw [hd2]; exact half_pow _ _ (by rw [← hx2]; exact HX.out.2.2)⟩
          obtain ⟨x3, hx3⟩ : ∃ x3, x2 / 2 = x3 := ⟨_, rfl⟩
          obtain ⟨z1, z2, z3, z4, z5, z6⟩ := fd_half x2 x3 hx3.symm hx5
          have HD2 := Lib.hid (hd2.trans hx3)
          clear hx2 hx5 hd2 hx3
          go_wp2_with fail
          refine C2.out.mono ?_
          rintro e _ ⟨rfl, rfl⟩
          go_wp2_with fail
          refine CD.out.mono ?_
          rintro e X9 hD
          obtain ⟨rfl, h9, -⟩ := hD
          have HX2 := Lib.hid (HX9.out _ h9)
          have C3 := Lib.hid (h9.of 2 (by decide))
          rw [HD2.out] at C3
          clear C2 CD h9 HX9 HX HD2
          go_wp2_with fail
          refine C3.out.mono ?_
          rintro e _ ⟨rfl, rfl⟩
          go_wp2_with fail
          refine C3.out.mono ?_
          rintro e _ ⟨rfl, rfl⟩
          clear C3
          go_wp2_with fail
          go_roundw
          case rel => exact ⟨t + 1, _, _, rfl, by omega, by go_num, HX2⟩
          case measure => simp only [RowKit.intOf]; omega
        · obtain rfl : t = 21 := by omega
          have hx0 : g 2 = 0 := Nat.le_zero.1 (HX.out.2.2)
          obtain ⟨hs, hh⟩ := HX.out.2.1.none hx0
          have CS := Lib.hid HX.out.1.sum
          rw [hs] at CS
          have HH := Lib.hid hh
          clear hx0 hs hh hlt
          go_wp2_with fail
          refine CS.out.mono ?_
          rintro e X9 ⟨rfl, k9⟩
          have CH := Lib.hid (HX.out.1.old k9).hot
          have HK9 := Lib.hid (HK1.out.on15 (HX.out.1.old k9).kept)
          clear CS HX k9
          go_wp2_with fail
          refine CH.out.mono ?_
          rintro e X10 hS
          unfold HotS at hS
          obtain ⟨a, cap, rfl, -, hk⟩ := hS
          rw [HH.out]
          have HKE := Lib.hid (HK9.out.on15 hk)
          clear CH HH hk HK9
          simp only [List.length_nil]
          go_wp2_with fail
          go_ret
          exact ⟨rfl, HKE.out⟩

end Go.Proofs.Ytdbohcdjamhdjaa
