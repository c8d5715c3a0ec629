/- Chunks on two devices: New. -/
import Derived.Test.YtmfnapbahkonhaaCw18
import Derived.LoopTactic
set_option linter.unusedVariables false
namespace Go.Proofs.Ytmfnapbahkonhaa
open Go.RowKit

theorem ckNewNilA (v : Value) (n : Int) (w : World) :
    Calls Try.prog 9 #[.pointer none, v, .int .i64 n] w fun e w' => e = .returned (.tuple #[.pointer none, .int .i64 2]) ∧ w = w' := by
  go_enter Try.func9, Try.ntmps9
  go_wp2
  go_ret2
  exact ⟨rfl, rfl⟩
theorem ckNewNilB (d : Nat) (n : Int) (w : World) :
    Calls Try.prog 9 #[.pointer (some ⟨d, 0, none⟩), .pointer none, .int .i64 n] w fun e w' => e = .returned (.tuple #[.pointer none, .int .i64 2]) ∧ w = w' := by
  go_enter Try.func9, Try.ntmps9
  go_wp2
  go_ret2
  exact ⟨rfl, rfl⟩

/-- Whether there can be such a Deck. -/
def canC (l0 l1 : Nat) (n : Int) : Bool := decide (1 ≤ n) && decide (n ≤ 8) && decide (n ≤ l0) && decide (n ≤ l1)

theorem ckNewArg {m : Nat} {T : Nat → Dsk} {w : World} (hD : ∀ t, t < 2 → IsD (T t).d m (T t).s (T t).b (T t).N (T t).S (T t).M w) (n : Int) (hn : canC (T 0).S.length (T 1).S.length n = false) :
    Calls Try.prog 9 #[.pointer (some ⟨(T 0).d, 0, none⟩), .pointer (some ⟨(T 1).d, 0, none⟩), .int .i64 n] w fun e w' => e = .returned (.tuple #[.pointer none, .int .i64 1]) ∧ w = w' := by
  have H0 := Lib.hid (dLen _ _ _ _ _ _ _ _ (hD 0 (by decide)))
  have H1 := Lib.hid (dLen _ _ _ _ _ _ _ _ (hD 1 (by decide)))
  generalize (T 0).S.length = l0 at *
  generalize (T 1).S.length = l1 at *
  generalize (T 0).d = d0 at *
  generalize (T 1).d = d1 at *
  clear hD
  by_cases h1 : n < 1
  · clear hn
    go_enter Try.func9, Try.ntmps9
    go_wp2
    go_ret2
    exact ⟨rfl, rfl⟩
  · by_cases h2 : 8 < n
    · clear hn
      go_enter Try.func9, Try.ntmps9
      go_wp2
      go_ret2
      exact ⟨rfl, rfl⟩
    · by_cases h3 : (l0 : Int) < n
      · clear hn
        go_enter Try.func9, Try.ntmps9
        go_wp2_with (go_at_call 24; refine H0.out.mono ?_; rintro e _ ⟨rfl, rfl⟩)
        go_ret2
        exact ⟨rfl, rfl⟩
      · have h4 : (l1 : Int) < n := by
          simp only [canC, Bool.and_eq_false_iff, decide_eq_false_iff_not] at hn
          omega
        clear hn
        go_enter Try.func9, Try.ntmps9
        go_wp2_with fail
        refine H0.out.mono ?_
        rintro e _ ⟨rfl, rfl⟩
        go_wp2_with fail
        refine H1.out.mono ?_
        rintro e _ ⟨rfl, rfl⟩
        go_wp2
        go_ret2
        exact ⟨rfl, rfl⟩

/-- The box of a Deck, j of whose counts stand. -/
def BoxK (k sz d0 d1 n0 n1 j : Nat) (W : World) : Prop :=
  W.heap[k]? = some (.cells #[.int .i64 sz, .pointer (some ⟨d0, 0, none⟩), .pointer (some ⟨d1, 0, none⟩), .int .i64 (if 0 < j then (n0 : Int) else 0), .int .i64 (if 1 < j then (n1 : Int) else 0)] 79 (0, 0))

attribute [local go_sem high] run_max2 run_min2

set_option maxHeartbeats 1000000 in
set_option maxRecDepth 100000 in
theorem ckNew {m : Nat} {p : Pw} {T : Nat → Dsk} {w : World} (hP : IsP m p w) (hD : ∀ t, t < 2 → IsD (T t).d m (T t).s (T t).b (T t).N (T t).S (T t).M w) (nd : (T 0).d ≠ (T 1).d) (ns : (T 0).s ≠ (T 1).s) (nb : (T 0).b ≠ (T 1).b)
    (sz : Nat) (hn : canC (T 0).S.length (T 1).S.length sz = true) :
    Calls Try.prog 9 #[.pointer (some ⟨(T 0).d, 0, none⟩), .pointer (some ⟨(T 1).d, 0, none⟩), .int .i64 sz] w fun e w' => e = .returned (.tuple #[.pointer (some ⟨w.heap.size, 0, none⟩), .int .i64 0]) ∧ Dck w.heap.size m sz p T w' ∧ KeptIn (· < w.heap.size) w w' := by
  simp only [canC, Bool.and_eq_true, decide_eq_true_eq] at hn
  obtain ⟨⟨⟨h1, h8⟩, hl0⟩, hl1⟩ := hn
  have hm0 := (hD 0 (by decide)).max
  have hm1 := (hD 1 (by decide)).max
  obtain ⟨k, hk⟩ : ∃ k, w.heap.size = k := ⟨_, rfl⟩
  have HFIN : Hid (∀ W, BoxK k sz (T 0).d (T 1).d (slN T sz 0) (slN T sz 1) 2 W → KeptIn (· < k) w W → Dck k m sz p T W) := Lib.hid fun W hb hkk => by
    subst hk
    exact ⟨hb, hP.kept hkk hP.lt, fun t ht => (hD t ht).kept hkk (hD t ht).ltd (hD t ht).lts (hD t ht).ltb, nd, ns, nb, by omega, by omega⟩
  have H0 := Lib.hid fun W (hW : KeptIn (· < k) w W) => dLen _ _ _ _ _ _ _ W ((hD 0 (by decide)).kept hW (by have := (hD 0 (by decide)).ltd; omega) (by have := (hD 0 (by decide)).lts; omega) (by have := (hD 0 (by decide)).ltb; omega))
  have H1 := Lib.hid fun W (hW : KeptIn (· < k) w W) => dLen _ _ _ _ _ _ _ W ((hD 1 (by decide)).kept hW (by have := (hD 1 (by decide)).ltd; omega) (by have := (hD 1 (by decide)).lts; omega) (by have := (hD 1 (by decide)).ltb; omega))
  have hq0 : min (((T 0).S.length / sz : Nat) : Int) 256 = (slN T sz 0 : Nat) := by unfold slN; omega
  have hq1 : min (((T 1).S.length / sz : Nat) : Int) 256 = (slN T sz 1 : Nat) := by unfold slN; omega
  clear hD hP nd ns nb
  generalize slN T sz 0 = n0 at *
  generalize slN T sz 1 = n1 at *
  generalize (T 0).S.length = l0 at *
  generalize (T 1).S.length = l1 at *
  generalize (T 0).d = d0 at *
  generalize (T 1).d = d1 at *
  have t1 : ¬ (sz : Int) < 1 := by omega
  have t8 : ¬ (8 : Int) < (sz : Int) := by omega
  have tl0 : ¬ (l0 : Int) < (sz : Int) := by omega
  have tl1 : ¬ (l1 : Int) < (sz : Int) := by omega
  have tz : ¬ (sz : Int) = 0 := by omega
  have tzn : ¬ sz = 0 := by omega
  have tn0 : decide (l0 < sz) = false := by simp; omega
  have tn1 : decide (l1 < sz) = false := by simp; omega
  have HQ : Hid ((l0 : Int).tdiv (sz : Int) = ((l0 / sz : Nat) : Int) ∧ (l1 : Int).tdiv (sz : Int) = ((l1 / sz : Nat) : Int) ∧ l0 / sz ≤ l0 ∧ l1 / sz ≤ l1) := Lib.hid ⟨by rw [Int.tdiv_eq_ediv_of_nonneg (by omega)]; simp, by rw [Int.tdiv_eq_ediv_of_nonneg (by omega)]; simp, Nat.div_le_self _ _, Nat.div_le_self _ _⟩
  obtain ⟨q0, hqq0⟩ : ∃ q, l0 / sz = q := ⟨_, rfl⟩
  obtain ⟨q1, hqq1⟩ : ∃ q, l1 / sz = q := ⟨_, rfl⟩
  rw [hqq0] at hq0
  rw [hqq1] at hq1
  rw [hqq0, hqq1] at HQ
  have HM : Hid (l0 ≤ 16384 ∧ l1 ≤ 16384) := Lib.hid ⟨hm0, hm1⟩
  have HK0 := Lib.hid hk
  clear h1 h8 hl0 hl1 hm0 hm1 hqq0 hqq1
  rw [hk]
  go_enter Try.func9, Try.ntmps9
  go_wp2_with fail
  refine (H0.out _ (KeptIn.refl _ _)).mono ?_
  rintro e _ ⟨rfl, rfl⟩
  go_wp2_with fail
  refine (H1.out _ (KeptIn.refl _ _)).mono ?_
  rintro e _ ⟨rfl, rfl⟩
  go_upto_region 6 with fail
  obtain ⟨W1, hW1⟩ : ∃ W1, w.alloc (.cells #[.int .i64 (sz : Int), .pointer none, .pointer none, .int .i64 0, .int .i64 0] 79) = W1 := ⟨_, rfl⟩
  rw [hW1]
  have hB1 : W1.heap[k]? = some (.cells #[.int .i64 (sz : Int), .pointer none, .pointer none, .int .i64 0, .int .i64 0] 79 (0, 0)) := by rw [← hW1, ← hk]; exact heap_alloc_new w _
  have hk1 : KeptIn (· < k) w W1 := by rw [← hW1, ← hk]; exact keptNew w _
  have c1 : W1.cell? ⟨k, 1, none⟩ = some (.pointer none) := (cell_of_row _ _ 1 _ _ _ hB1).trans rfl
  have c2 : W1.cell? ⟨k, 2, none⟩ = some (.pointer none) := (cell_of_row _ _ 2 _ _ _ hB1).trans rfl
  have f1 : W1.frozen? ⟨k, 1, none⟩ = false := frozen_of_row _ _ _ _ _ hB1
  have f2 : W1.frozen? ⟨k, 2, none⟩ = false := frozen_of_row _ _ _ _ _ hB1
  have HB1 := Lib.hid (And.intro hB1 hk1)
  clear hW1 hB1 hk1 hk
  go_region
  obtain ⟨W2, hW2⟩ : ∃ W2, ((W1.setCell ⟨k, 1, none⟩ (.pointer (some ⟨d0, 0, none⟩))).setCell ⟨k, 2, none⟩ (.pointer (some ⟨d1, 0, none⟩))).drew = W2 := ⟨_, rfl⟩
  rw [hW2]
  have hB2 : BoxK k sz d0 d1 n0 n1 0 W2 := by
    rw [← hW2]
    have e1 : (W1.setCell ⟨k, 1, none⟩ (.pointer (some ⟨d0, 0, none⟩))).heap[k]? = _ := heap_setCell_same _ _ _ _ _ _ HB1.out.1
    exact (heap_setCell_same _ _ _ _ _ _ e1).trans rfl
  have hk2 : KeptIn (· < k) w W2 := by
    rw [← hW2]
    exact ((HB1.out.2.setCell (p := ⟨k, 1, none⟩) (by simp) _).setCell (p := ⟨k, 2, none⟩) (by simp) _).drew
  have c1 : W2.cell? ⟨k, 1, none⟩ = some (.pointer (some ⟨d0, 0, none⟩)) := (cell_of_row _ _ 1 _ _ _ hB2).trans rfl
  have c2 : W2.cell? ⟨k, 2, none⟩ = some (.pointer (some ⟨d1, 0, none⟩)) := (cell_of_row _ _ 2 _ _ _ hB2).trans rfl
  have HJ0 : Hid (BoxK k sz d0 d1 n0 n1 0 W2 ∧ KeptIn (· < k) w W2) := Lib.hid ⟨hB2, hk2⟩
  clear hW2 hB2 hk2 f1 f2 HB1
  go_wp2_with fail
  go_loopw [52] (fun c wr => ∃ (j : Nat) (W : World), W = wr ∧ j ≤ 2 ∧ c = .int .i64 (j : Int) ∧ Hid (BoxK k sz d0 d1 n0 n1 j W ∧ KeptIn (· < k) w W)) (fun c _ => 2 - (RowKit.intOf c).toNat)
  case atStart => exact ⟨0, W2, rfl, Nat.zero_le _, rfl, HJ0⟩
  case round =>
    obtain ⟨j, W, rfl, hj, rfl, HJ⟩ := hrel
    clear HJ0 c1 c2
    rcases (by omega : j = 0 ∨ j = 1 ∨ j = 2) with rfl | rfl | rfl
    · have c3 : W.cell? ⟨k, 3, none⟩ = some (.int .i64 0) := (cell_of_row _ _ 3 _ _ _ HJ.out.1).trans rfl
      have f3 : W.frozen? ⟨k, 3, none⟩ = false := frozen_of_row _ _ _ _ _ HJ.out.1
      have hd := HQ.out.1
      have hw0 : IntKind.i64.wrap (q0 : Int) = (q0 : Int) := by rw [IntKind.wrap_i64]; have := HQ.out.2.2.1; have := HM.out.1; omega
      have hix : (Instr.index 76 (.agg #[.pointer (some ⟨d0, 0, none⟩), .pointer (some ⟨d1, 0, none⟩)]) (.int .i64 0)).run Try.prog W = .ok (.pointer (some ⟨d0, 0, none⟩)) W := by kernel_rfl
      have HN2 : Hid (BoxK k sz d0 d1 n0 n1 1 (W.setCell ⟨k, 3, none⟩ (.int .i64 (n0 : Int))) ∧ KeptIn (· < k) w (W.setCell ⟨k, 3, none⟩ (.int .i64 (n0 : Int)))) := Lib.hid ⟨(heap_setCell_same _ _ _ _ _ _ HJ.out.1).trans rfl, HJ.out.2.setCell (p := ⟨k, 3, none⟩) (by simp) _⟩
      have HKJ := Lib.hid HJ.out.2
      clear HJ
      go_wp2_with fail
      go_region_law (first | (go_simp; go_at_call 24; refine (H0.out _ HKJ.out.drew).mono ?_; rintro e _ ⟨rfl, rfl⟩))
      all_goals
        go_wp2_with fail
        go_roundw
        case rel => exact ⟨1, _, rfl, by omega, rfl, Lib.hid ⟨HN2.out.1, HN2.out.2.drew⟩⟩
        case measure => simp [RowKit.intOf]
    · have c3 : W.cell? ⟨k, 4, none⟩ = some (.int .i64 0) := (cell_of_row _ _ 4 _ _ _ HJ.out.1).trans rfl
      have f3 : W.frozen? ⟨k, 4, none⟩ = false := frozen_of_row _ _ _ _ _ HJ.out.1
      have hd := HQ.out.2.1
      have hw0 : IntKind.i64.wrap (q1 : Int) = (q1 : Int) := by rw [IntKind.wrap_i64]; have := HQ.out.2.2.2; have := HM.out.2; omega
      have hix : (Instr.index 76 (.agg #[.pointer (some ⟨d0, 0, none⟩), .pointer (some ⟨d1, 0, none⟩)]) (.int .i64 1)).run Try.prog W = .ok (.pointer (some ⟨d1, 0, none⟩)) W := by kernel_rfl
      have HN2 : Hid (BoxK k sz d0 d1 n0 n1 2 (W.setCell ⟨k, 4, none⟩ (.int .i64 (n1 : Int))) ∧ KeptIn (· < k) w (W.setCell ⟨k, 4, none⟩ (.int .i64 (n1 : Int)))) := Lib.hid ⟨(heap_setCell_same _ _ _ _ _ _ HJ.out.1).trans rfl, HJ.out.2.setCell (p := ⟨k, 4, none⟩) (by simp) _⟩
      have HKJ := Lib.hid HJ.out.2
      clear HJ
      go_wp2_with fail
      go_region_law (first | (go_simp; go_at_call 24; refine (H1.out _ HKJ.out.drew).mono ?_; rintro e _ ⟨rfl, rfl⟩))
      all_goals
        go_wp2_with fail
        go_roundw
        case rel => exact ⟨2, _, rfl, by omega, rfl, Lib.hid ⟨HN2.out.1, HN2.out.2.drew⟩⟩
        case measure => simp [RowKit.intOf]
    · have HF := Lib.hid (HFIN.out W HJ.out.1 HJ.out.2)
      have HKK := Lib.hid HJ.out.2
      clear HJ
      go_wp2_with fail
      go_ret2
      exact ⟨rfl, HF.out, HKK.out⟩

end Go.Proofs.Ytmfnapbahkonhaa
