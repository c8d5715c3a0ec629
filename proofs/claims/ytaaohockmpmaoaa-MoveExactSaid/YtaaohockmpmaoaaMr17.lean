/- The document's answers of layer 17. -/
import Derived.Test.YtaaohockmpmaoaaMw17
set_option linter.unusedVariables false
namespace Go.Proofs.Ytaaohockmpmaoaa
open Go.RowKit

theorem r17Next (p : Int) (w : World) : Calls Try.prog 9 #[.int .i64 p] w fun e w' => e = .returned (.int .i64 (nxt p)) ∧ w = w' := by
  by_cases h1 : 1 ≤ p
  · by_cases h2 : p ≤ 3
    · have e : p + 1 = nxt p := by unfold nxt; rw [if_pos ⟨h1, h2⟩]
      rw [← e]
      clear e
      go_enter Try.func9, Try.ntmps9
      go_wp2_with fail
      go_ret
      exact ⟨rfl, rfl⟩
    · rw [show nxt p = p from if_neg (by omega)]
      go_enter Try.func9, Try.ntmps9
      go_wp2_with fail
      go_ret
      exact ⟨rfl, rfl⟩
  · rw [show nxt p = p from if_neg (by omega)]
    go_enter Try.func9, Try.ntmps9
    go_wp2_with fail
    go_ret
    exact ⟨rfl, rfl⟩
theorem r17Steps (p : Int) (w : World) : Calls Try.prog 11 #[.int .i64 p] w fun e w' => e = .returned (.int .i64 (stp p)) ∧ w = w' := by
  by_cases h1 : 1 ≤ p
  · by_cases h2 : p ≤ 3
    · have e : 4 - p = stp p := by unfold stp; rw [if_pos ⟨h1, h2⟩]
      rw [← e]
      clear e
      go_enter Try.func11, Try.ntmps11
      go_wp2_with fail
      go_ret
      exact ⟨rfl, rfl⟩
    · rw [show stp p = 0 from if_neg (by omega)]
      go_enter Try.func11, Try.ntmps11
      go_wp2_with fail
      go_ret
      exact ⟨rfl, rfl⟩
  · rw [show stp p = 0 from if_neg (by omega)]
    go_enter Try.func11, Try.ntmps11
    go_wp2_with fail
    go_ret
    exact ⟨rfl, rfl⟩
theorem r17Stale (p : Int) (w : World) : Calls Try.prog 10 #[.int .i64 p] w fun e w' => e = .returned (.int .i64 (stl p)) ∧ w = w' := by
  by_cases h2 : p = 2
  · subst h2
    go_enter Try.func10, Try.ntmps10
    go_wp2_with fail
    go_ret
    exact ⟨rfl, rfl⟩
  by_cases h3 : p = 3
  · subst h3
    go_enter Try.func10, Try.ntmps10
    go_wp2_with fail
    go_ret
    exact ⟨rfl, rfl⟩
  have e : stl p = p := by unfold stl; split <;> omega
  have z2 : (p == 2) = false := by rw [beq_eq_false_iff_ne]; exact h2
  have z3 : (p == 3) = false := by rw [beq_eq_false_iff_ne]; exact h3
  rw [e]
  clear e
  go_enter Try.func10, Try.ntmps10
  go_wp2_with fail
  go_ret
  exact ⟨rfl, rfl⟩

theorem spot_start (w : World) (a b : Sp) : BoxS w.heap.size a ((w.alloc (.cells #[.int .i64 a.ti, .int .i64 a.sl] 23)).alloc (.cells #[.int .i64 b.ti, .int .i64 b.sl] 23)) ∧ BoxS (w.heap.size + 1) b ((w.alloc (.cells #[.int .i64 a.ti, .int .i64 a.sl] 23)).alloc (.cells #[.int .i64 b.ti, .int .i64 b.sl] 23)) ∧
    KeptIn (· < w.heap.size) w ((w.alloc (.cells #[.int .i64 a.ti, .int .i64 a.sl] 23)).alloc (.cells #[.int .i64 b.ti, .int .i64 b.sl] 23)) := by
  have h1 := BoxS.new w a
  obtain ⟨W1, hW1⟩ : ∃ W1, w.alloc (.cells #[.int .i64 a.ti, .int .i64 a.sl] 23) = W1 := ⟨_, rfl⟩
  have hk1 : KeptIn (· < w.heap.size) w W1 := by rw [← hW1]; exact keptNew _ _
  have hs1 : W1.heap.size = w.heap.size + 1 := by rw [← hW1]; simp
  rw [hW1] at h1 ⊢
  have h2 := BoxS.new W1 b
  rw [hs1] at h2
  exact ⟨h1.old (keptNew _ _), h2, hk1.onM (keptNew _ _)⟩

theorem sum_far {a b : Int} (h : ¬ wrap64 (a + b) = 1) (h3 : a = 0 ∨ a = 1) (h6 : b = 0 ∨ b = 1) (h9 : a ≠ b) : False := by
  apply h
  rcases h3 with rfl | rfl <;> rcases h6 with rfl | rfl <;> first | exact absurd rfl h9 | decide +kernel
theorem sum_one {a b : Int} (ha : a ≤ 9223372036854775807) (hb : b ≤ 9223372036854775807) (h0 : 0 ≤ a) (h1 : 0 ≤ b) (h : wrap64 (a + b) = 1) : (a = 0 ∧ b = 1) ∨ (a = 1 ∧ b = 0) := by
  unfold wrap64 at h
  omega

set_option maxHeartbeats 1000000 in
theorem r17Can (ch : Int) (a b : Sp) (w : World) (wa : (Lit.int .i64 a.ti).wf = true) (wb : (Lit.int .i64 b.ti).wf = true) : Calls Try.prog 8 #[.int .i64 ch, spV a, spV b] w (BoS w (decide (CanM ch a b))) := by
  have HS := Lib.hid (spot_start w a b).2.2
  obtain ⟨o, ho⟩ : ∃ o, decide (CanM ch a b) = o := ⟨_, rfl⟩
  rw [ho]
  obtain ⟨ft, fs⟩ := a
  obtain ⟨tt, ts⟩ := b
  have HO := Lib.hid ho
  clear ho
  unfold spV BoS
  simp only at HS wa wb ⊢
  have ba : ft ≤ 9223372036854775807 := by have := bounds_i64 wa; omega
  have bb : tt ≤ 9223372036854775807 := by have := bounds_i64 wb; omega
  clear wa wb
  by_cases h1 : 1 ≤ ch
  · by_cases h2 : ch ≤ 1023
    · by_cases hs : wrap64 (ft + tt) = 1
      · by_cases a0 : 0 ≤ ft
        · by_cases b0 : 0 ≤ tt
          · rcases sum_one ba bb a0 b0 hs with ⟨rfl, rfl⟩ | ⟨rfl, rfl⟩
            · clear ba bb a0 b0 hs
              by_cases s1 : (0 : Int) ≤ fs
              · by_cases s2 : fs < 256
                · by_cases s3 : (0 : Int) ≤ ts
                  · by_cases s4 : ts < 256
                    · obtain rfl : o = true := by rw [← HO.out]; exact decide_eq_true ⟨h1, h2, ⟨by simp, s1, s2⟩, ⟨by simp, s3, s4⟩, by simp⟩
                      clear HO
                      go_enter Try.func8, Try.ntmps8
                      go_wp2_with fail
                      go_ret
                      exact ⟨rfl, HS.out⟩
                    · obtain rfl : o = false := by rw [← HO.out]; exact decide_eq_false fun h : CanM ch ⟨0, fs⟩ ⟨1, ts⟩ => by obtain ⟨m1, m2, ⟨m3, m4, m5⟩, ⟨m6, m7, m8⟩, m9⟩ := h; simp only at m1 m2 m3 m4 m5 m6 m7 m8 m9; omega
                      clear HO
                      go_enter Try.func8, Try.ntmps8
                      go_wp2_with fail
                      go_ret
                      exact ⟨rfl, HS.out⟩
                  · obtain rfl : o = false := by rw [← HO.out]; exact decide_eq_false fun h : CanM ch ⟨0, fs⟩ ⟨1, ts⟩ => by obtain ⟨m1, m2, ⟨m3, m4, m5⟩, ⟨m6, m7, m8⟩, m9⟩ := h; simp only at m1 m2 m3 m4 m5 m6 m7 m8 m9; omega
                    clear HO
                    go_enter Try.func8, Try.ntmps8
                    go_wp2_with fail
                    go_ret
                    exact ⟨rfl, HS.out⟩
                · obtain rfl : o = false := by rw [← HO.out]; exact decide_eq_false fun h : CanM ch ⟨0, fs⟩ ⟨1, ts⟩ => by obtain ⟨m1, m2, ⟨m3, m4, m5⟩, ⟨m6, m7, m8⟩, m9⟩ := h; simp only at m1 m2 m3 m4 m5 m6 m7 m8 m9; omega
                  clear HO
                  go_enter Try.func8, Try.ntmps8
                  go_wp2_with fail
                  go_ret
                  exact ⟨rfl, HS.out⟩
              · obtain rfl : o = false := by rw [← HO.out]; exact decide_eq_false fun h : CanM ch ⟨0, fs⟩ ⟨1, ts⟩ => by obtain ⟨m1, m2, ⟨m3, m4, m5⟩, ⟨m6, m7, m8⟩, m9⟩ := h; simp only at m1 m2 m3 m4 m5 m6 m7 m8 m9; omega
                clear HO
                go_enter Try.func8, Try.ntmps8
                go_wp2_with fail
                go_ret
                exact ⟨rfl, HS.out⟩
            · clear ba bb a0 b0 hs
              by_cases s1 : (0 : Int) ≤ fs
              · by_cases s2 : fs < 256
                · by_cases s3 : (0 : Int) ≤ ts
                  · by_cases s4 : ts < 256
                    · obtain rfl : o = true := by rw [← HO.out]; exact decide_eq_true ⟨h1, h2, ⟨by simp, s1, s2⟩, ⟨by simp, s3, s4⟩, by simp⟩
                      clear HO
                      go_enter Try.func8, Try.ntmps8
                      go_wp2_with fail
                      go_ret
                      exact ⟨rfl, HS.out⟩
                    · obtain rfl : o = false := by rw [← HO.out]; exact decide_eq_false fun h : CanM ch ⟨1, fs⟩ ⟨0, ts⟩ => by obtain ⟨m1, m2, ⟨m3, m4, m5⟩, ⟨m6, m7, m8⟩, m9⟩ := h; simp only at m1 m2 m3 m4 m5 m6 m7 m8 m9; omega
                      clear HO
                      go_enter Try.func8, Try.ntmps8
                      go_wp2_with fail
                      go_ret
                      exact ⟨rfl, HS.out⟩
                  · obtain rfl : o = false := by rw [← HO.out]; exact decide_eq_false fun h : CanM ch ⟨1, fs⟩ ⟨0, ts⟩ => by obtain ⟨m1, m2, ⟨m3, m4, m5⟩, ⟨m6, m7, m8⟩, m9⟩ := h; simp only at m1 m2 m3 m4 m5 m6 m7 m8 m9; omega
                    clear HO
                    go_enter Try.func8, Try.ntmps8
                    go_wp2_with fail
                    go_ret
                    exact ⟨rfl, HS.out⟩
                · obtain rfl : o = false := by rw [← HO.out]; exact decide_eq_false fun h : CanM ch ⟨1, fs⟩ ⟨0, ts⟩ => by obtain ⟨m1, m2, ⟨m3, m4, m5⟩, ⟨m6, m7, m8⟩, m9⟩ := h; simp only at m1 m2 m3 m4 m5 m6 m7 m8 m9; omega
                  clear HO
                  go_enter Try.func8, Try.ntmps8
                  go_wp2_with fail
                  go_ret
                  exact ⟨rfl, HS.out⟩
              · obtain rfl : o = false := by rw [← HO.out]; exact decide_eq_false fun h : CanM ch ⟨1, fs⟩ ⟨0, ts⟩ => by obtain ⟨m1, m2, ⟨m3, m4, m5⟩, ⟨m6, m7, m8⟩, m9⟩ := h; simp only at m1 m2 m3 m4 m5 m6 m7 m8 m9; omega
                clear HO
                go_enter Try.func8, Try.ntmps8
                go_wp2_with fail
                go_ret
                exact ⟨rfl, HS.out⟩
          · obtain rfl : o = false := by rw [← HO.out]; exact decide_eq_false fun h : CanM ch ⟨ft, fs⟩ ⟨tt, ts⟩ => by obtain ⟨m1, m2, ⟨m3, m4, m5⟩, ⟨m6, m7, m8⟩, m9⟩ := h; simp only at m1 m2 m3 m4 m5 m6 m7 m8 m9; omega
            clear HO
            go_enter Try.func8, Try.ntmps8
            go_wp2_with fail
            go_ret
            exact ⟨rfl, HS.out⟩
        · obtain rfl : o = false := by rw [← HO.out]; exact decide_eq_false fun h : CanM ch ⟨ft, fs⟩ ⟨tt, ts⟩ => by obtain ⟨m1, m2, ⟨m3, m4, m5⟩, ⟨m6, m7, m8⟩, m9⟩ := h; simp only at m1 m2 m3 m4 m5 m6 m7 m8 m9; omega
          clear HO
          go_enter Try.func8, Try.ntmps8
          go_wp2_with fail
          go_ret
          exact ⟨rfl, HS.out⟩
      · have z0 : (wrap64 (ft + tt) == 1) = false := by rw [beq_eq_false_iff_ne]; exact hs
        have z1 : (wrap64 (ft + tt) != 1) = true := by rw [bne_iff_ne]; exact hs
        obtain rfl : o = false := by rw [← HO.out]; exact decide_eq_false fun h : CanM ch ⟨ft, fs⟩ ⟨tt, ts⟩ => sum_far hs h.2.2.1.1 h.2.2.2.1.1 h.2.2.2.2
        clear HO
        go_enter Try.func8, Try.ntmps8
        go_wp2_with fail
        go_ret
        exact ⟨rfl, HS.out⟩
    · obtain rfl : o = false := by rw [← HO.out]; exact decide_eq_false fun h : CanM ch ⟨ft, fs⟩ ⟨tt, ts⟩ => by obtain ⟨m1, m2, ⟨m3, m4, m5⟩, ⟨m6, m7, m8⟩, m9⟩ := h; simp only at m1 m2 m3 m4 m5 m6 m7 m8 m9; omega
      clear HO
      go_enter Try.func8, Try.ntmps8
      go_wp2_with fail
      go_ret
      exact ⟨rfl, HS.out⟩
  · obtain rfl : o = false := by rw [← HO.out]; exact decide_eq_false fun h : CanM ch ⟨ft, fs⟩ ⟨tt, ts⟩ => by obtain ⟨m1, m2, ⟨m3, m4, m5⟩, ⟨m6, m7, m8⟩, m9⟩ := h; simp only at m1 m2 m3 m4 m5 m6 m7 m8 m9; omega
    clear HO
    go_enter Try.func8, Try.ntmps8
    go_wp2_with fail
    go_ret
    exact ⟨rfl, HS.out⟩

end Go.Proofs.Ytaaohockmpmaoaa
