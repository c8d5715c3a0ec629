/- RankLevels. -/
import Derived.Test.YtjhmcfhbjfjmkaaAw16
set_option linter.unusedVariables false
namespace Go.Proofs.Ytjhmcfhbjfjmkaa
open Go.RowKit

theorem lev_wf {a : Int} (h1 : 1 ≤ a) (h2 : a < 64) : (Lit.int .i64 (2 * a)).wf = true ∧ (Lit.int .i64 (2 * a + 1)).wf = true := by
  obtain ⟨n, rfl⟩ : ∃ n : Nat, a = n := ⟨a.toNat, by omega⟩
  have h : n < 64 := by omega
  have : ∀ n : Fin 64, (Lit.int .i64 (2 * (n.val : Int))).wf = true ∧ (Lit.int .i64 (2 * (n.val : Int) + 1)).wf = true := by decide +kernel
  exact this ⟨n, h⟩
set_option maxHeartbeats 2000000 in
set_option maxRecDepth 100000 in
theorem levelsW16 (a b : Int) (w : World) (ha : (Lit.int .i64 a).wf = true) (hb : (Lit.int .i64 b).wf = true) :
    Calls Try.prog 5 #[.int .i64 a, .int .i64 b] w fun e w' => e = .returned (.bool true) ∧ KeptIn (· < w.heap.size) w w' := by
  have CA := Lib.hid (awake16 w)
  have C1 := Lib.hid (rkLevel a ha)
  have C2 := Lib.hid (rkLevel b hb)
  have h7 := lv_le a
  have hm : a ≤ b → lv a ≤ lv b := fun h => lv_mono h
  have h0 : a ≤ 0 → lv a = 0 := lv_none a
  have ht : ¬ a < 64 → lv a = 7 := fun h => lv_top (by omega)
  have C3 := Lib.hid (show 1 ≤ a → a < 64 → (∀ w, Calls Try.prog 8 #[.int .i64 (2 * a)] w fun e w' => e = .returned (.int .i64 ((lv a : Int) + 1)) ∧ w' = w) ∧ ∀ w, Calls Try.prog 8 #[.int .i64 (2 * a + 1)] w fun e w' => e = .returned (.int .i64 ((lv a : Int) + 1)) ∧ w' = w from fun h1 h2 => by
    have e1 := rkLevel (2 * a) (lev_wf h1 h2).1
    have e2 := rkLevel (2 * a + 1) (lev_wf h1 h2).2
    rw [(lv_two h1 h2).1] at e1
    rw [(lv_two h1 h2).2] at e2
    exact ⟨e1, e2⟩)
  obtain ⟨x, hx⟩ : ∃ x, lv a = x := ⟨_, rfl⟩
  obtain ⟨y, hy⟩ : ∃ y, lv b = y := ⟨_, rfl⟩
  rw [hx] at C1 C3 h7 hm h0 ht
  rw [hy] at C2 hm
  have HX := Lib.hid (And.intro h7 (And.intro hm (And.intro h0 ht)))
  clear h7 hm h0 ht hx hy ha hb
  go_enter Try.func5, Try.ntmps5
  go_wp2_with fail
  refine CA.out.mono ?_
  rintro e W ⟨rfl, hk⟩
  have HK := Lib.hid hk
  clear hk CA
  go_wp2_with fail
  refine (C1.out _).mono ?_
  rintro e _ ⟨rfl, rfl⟩
  go_wp2_with fail
  refine (C2.out _).mono ?_
  rintro e _ ⟨rfl, rfl⟩
  clear C1 C2
  have t1 : decide ((x : Int) < 0) = false := decide_eq_false (by omega)
  have t2 : decide ((8 : Int) ≤ (x : Int)) = false := decide_eq_false (by have := HX.out.1; omega)
  have t8 : decide (8 ≤ x) = false := decide_eq_false (by have := HX.out.1; omega)
  by_cases hab : a ≤ b
  · have s1 : decide (a ≤ b) = true := decide_eq_true hab
    have s2 : decide ((y : Int) < (x : Int)) = false := decide_eq_false (by have := HX.out.2.1 hab; omega)
    have s3 : decide (y < x) = false := decide_eq_false (by have := HX.out.2.1 hab; omega)
    clear hab
    rcases Int.lt_or_le 0 a with hp | hn
    · have r1 : decide (a ≤ 0) = false := decide_eq_false (by omega)
      have r2 : decide ((1 : Int) ≤ a) = true := decide_eq_true (by omega)
      by_cases h64 : a < 64
      · have r3 : decide (a < 64) = true := decide_eq_true h64
        have C := Lib.hid (C3.out hp h64)
        have w1 : wrap64 (2 * a) = 2 * a := by unfold wrap64; omega
        have w2 : wrap64 (2 * a + 1) = 2 * a + 1 := by unfold wrap64; omega
        have w3 : wrap64 ((x : Int) + 1) = (x : Int) + 1 := by have := HX.out.1; unfold wrap64; omega
        clear HX C3 hp h64
        go_wp2_with fail
        refine (C.out.1 _).mono ?_
        rintro e _ ⟨rfl, rfl⟩
        go_wp2_with fail
        refine (C.out.2 _).mono ?_
        rintro e _ ⟨rfl, rfl⟩
        go_wp2_with fail
        go_ret
        exact ⟨rfl, HK.out⟩
      · have r3 : decide (a < 64) = false := decide_eq_false h64
        have e7 : ((x : Int) == 7) = true := by rw [HX.out.2.2.2 (by omega)]; rfl
        clear HX C3 hp h64
        go_wp2_with fail
        go_ret
        exact ⟨rfl, HK.out⟩
    · have r1 : decide (a ≤ 0) = true := decide_eq_true hn
      have r2 : decide ((1 : Int) ≤ a) = false := decide_eq_false (by omega)
      have r3 : decide (a < 64) = true := decide_eq_true (by omega)
      have e0 : ((x : Int) != 0) = false := by rw [HX.out.2.2.1 hn]; rfl
      clear HX C3 hn
      go_wp2_with fail
      go_ret
      exact ⟨rfl, HK.out⟩
  · have s1 : decide (a ≤ b) = false := decide_eq_false hab
    clear hab
    rcases Int.lt_or_le 0 a with hp | hn
    · have r1 : decide (a ≤ 0) = false := decide_eq_false (by omega)
      have r2 : decide ((1 : Int) ≤ a) = true := decide_eq_true (by omega)
      by_cases h64 : a < 64
      · have r3 : decide (a < 64) = true := decide_eq_true h64
        have C := Lib.hid (C3.out hp h64)
        have w1 : wrap64 (2 * a) = 2 * a := by unfold wrap64; omega
        have w2 : wrap64 (2 * a + 1) = 2 * a + 1 := by unfold wrap64; omega
        have w3 : wrap64 ((x : Int) + 1) = (x : Int) + 1 := by have := HX.out.1; unfold wrap64; omega
        clear HX C3 hp h64
        go_wp2_with fail
        refine (C.out.1 _).mono ?_
        rintro e _ ⟨rfl, rfl⟩
        go_wp2_with fail
        refine (C.out.2 _).mono ?_
        rintro e _ ⟨rfl, rfl⟩
        go_wp2_with fail
        go_ret
        exact ⟨rfl, HK.out⟩
      · have r3 : decide (a < 64) = false := decide_eq_false h64
        have e7 : ((x : Int) == 7) = true := by rw [HX.out.2.2.2 (by omega)]; rfl
        clear HX C3 hp h64
        go_wp2_with fail
        go_ret
        exact ⟨rfl, HK.out⟩
    · have r1 : decide (a ≤ 0) = true := decide_eq_true hn
      have r2 : decide ((1 : Int) ≤ a) = false := decide_eq_false (by omega)
      have r3 : decide (a < 64) = true := decide_eq_true (by omega)
      have e0 : ((x : Int) != 0) = false := by rw [HX.out.2.2.1 hn]; rfl
      clear HX C3 hn
      go_wp2_with fail
      go_ret
      exact ⟨rfl, HK.out⟩

end Go.Proofs.Ytjhmcfhbjfjmkaa
