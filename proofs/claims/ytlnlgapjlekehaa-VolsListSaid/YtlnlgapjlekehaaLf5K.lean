import Derived.Test.YtlnlgapjlekehaaJ2
/- Package leaf's Find. -/
set_option linter.unusedVariables false
namespace Go.Proofs.Ytlnlgapjlekehaa
open Go.RowKit

/-- How many keys are below, are not above; whether one is the key. -/
def belowK (ps : Pairs) (k : Nat) : Nat := ps.countP fun p => decide (p.1 < k)
def uptoK (ps : Pairs) (k : Nat) : Nat := ps.countP fun p => decide (p.1 ≤ k)
def hasK (ps : Pairs) (k : Nat) : Bool := ps.any fun p => p.1 == k

theorem countP_cut (ps : Pairs) (q : Nat × Nat → Bool) (i : Nat) (hi : i ≤ ps.length) (h1 : ∀ j (h : j < ps.length), j < i → q ps[j] = true) (h2 : ∀ j (h : j < ps.length), i ≤ j → q ps[j] = false) : ps.countP q = i := by
  have e : ps = ps.take i ++ ps.drop i := (List.take_append_drop ..).symm
  rw [e, List.countP_append]
  have a : (ps.take i).countP q = i := by
    have : (ps.take i).countP q = (ps.take i).length := by
      rw [List.countP_eq_length]
      intro p hp
      obtain ⟨j, hj, rfl⟩ := List.getElem_of_mem hp
      rw [List.getElem_take]
      rw [List.length_take] at hj
      exact h1 j (by omega) (by omega)
    rw [this, List.length_take]; omega
  have b : (ps.drop i).countP q = 0 := by
    rw [List.countP_eq_zero]
    intro p hp
    obtain ⟨j, hj, rfl⟩ := List.getElem_of_mem hp
    rw [List.getElem_drop]
    rw [List.length_drop] at hj
    rw [h2 (i + j) (by omega) (by omega)]
    decide
  omega

theorem below_at {ps : Pairs} {k i : Nat} (hr : rises ps = true) (hi : i ≤ ps.length) (h1 : ∀ j, j < i → keyAt ps j < k) (h2 : i < ps.length → k ≤ keyAt ps i) : belowK ps k = i := by
  refine countP_cut ps _ i hi (fun j h hj => ?_) (fun j h hj => ?_)
  · have := h1 j hj
    rw [keyAt_get h] at this
    exact decide_eq_true this
  · have a := h2 (by omega)
    have b : keyAt ps i ≤ keyAt ps j := by
      rcases Nat.lt_or_ge i j with h' | h'
      · exact Nat.le_of_lt (rises_lt hr h' h)
      · obtain rfl : i = j := by omega
        exact Nat.le_refl _
    rw [keyAt_get h] at b
    exact decide_eq_false (by omega)

theorem upto_at {ps : Pairs} {k i : Nat} (hr : rises ps = true) (hi : i ≤ ps.length) (h1 : 0 < i → keyAt ps (i - 1) ≤ k) (h2 : ∀ j, i ≤ j → j < ps.length → k < keyAt ps j) : uptoK ps k = i := by
  refine countP_cut ps _ i hi (fun j h hj => ?_) (fun j h hj => ?_)
  · have a := h1 (by omega)
    have b : keyAt ps j ≤ keyAt ps (i - 1) := by
      rcases Nat.lt_or_ge j (i - 1) with h' | h'
      · exact Nat.le_of_lt (rises_lt hr h' (by omega))
      · obtain rfl : j = i - 1 := by omega
        exact Nat.le_refl _
    rw [keyAt_get h] at b
    exact decide_eq_true (by omega)
  · have := h2 j hj h
    rw [keyAt_get h] at this
    exact decide_eq_false (by omega)

theorem has_at {ps : Pairs} {k i : Nat} (hr : rises ps = true) (hi : i < ps.length) (h1 : ∀ j, j < i → keyAt ps j < k) (h2 : k ≤ keyAt ps i) : hasK ps k = decide (keyAt ps i = k) := by
  rw [Bool.eq_iff_iff, decide_eq_true_iff]
  unfold hasK
  rw [List.any_eq_true]
  constructor
  · rintro ⟨p, hp, he⟩
    obtain ⟨j, hj, rfl⟩ := List.getElem_of_mem hp
    have he' : ps[j].1 = k := by simpa using he
    rw [← keyAt_get hj] at he'
    rcases Nat.lt_trichotomy j i with h | h | h
    · have := h1 j h; omega
    · rw [← h]; exact he'
    · have := rises_lt hr h hj; omega
  · intro h
    refine ⟨ps[i], List.getElem_mem hi, ?_⟩
    rw [keyAt_get hi] at h
    simpa using h

theorem has_none {ps : Pairs} {k : Nat} (h1 : ∀ j, j < ps.length → keyAt ps j < k) : hasK ps k = false := by
  unfold hasK
  rw [List.any_eq_false]
  intro p hp
  obtain ⟨j, hj, rfl⟩ := List.getElem_of_mem hp
  have := h1 j hj
  rw [keyAt_get hj] at this
  simp; omega

set_option maxHeartbeats 1000000 in
set_option maxRecDepth 100000 in
theorem lfFind (lv : Int) (a : Option Addr) (cap : Nat) (ps : Pairs) (k : Nat) (w : World) (h : IsPs w a ps) (hr : rises ps = true) (hk : k < 18446744073709551616) :
    Calls Try.prog 55 #[leafV lv a ps.length cap, .int .u64 k] w fun e w' => e = .returned (.tuple #[.int .i64 (belowK ps k), .bool (hasK ps k)]) ∧ KeptIn (· < w.heap.size) w w' := by
  obtain ⟨n, hn⟩ : ∃ n, ps.length = n := ⟨_, rfl⟩
  have hm : (n : Int) ≤ 9223372036854775807 := by have := h.len; unfold maxLen at this; omega
  obtain ⟨rb, hrb⟩ : ∃ rb, belowK ps k = rb := ⟨_, rfl⟩
  obtain ⟨rh, hrh⟩ : ∃ rh, hasK ps k = rh := ⟨_, rfl⟩
  unfold leafV
  rw [hrb, hrh, hn]
  have H := Lib.hid h
  have HN := Lib.hid hn
  have HR := Lib.hid (And.intro hrb (And.intro hrh hr))
  have HJ0 : Hid (KeptIn (· < w.heap.size) w (w.alloc (.cells #[.int .i64 lv, .slice a n cap] 82)) ∧ BoxL w.heap.size lv a n cap (w.alloc (.cells #[.int .i64 lv, .slice a n cap] 82)) ∧ ∀ i, i < 0 → keyAt ps i < k) := Lib.hid ⟨(KeptIn.refl _ w).alloc (fun _ h => h) _, BoxL.new w lv a n cap, fun i hi => absurd hi (by omega)⟩
  clear h hn hrb hrh hr
  go_enter Try.func55, Try.ntmps55
  go_wp2_with fail
  go_loopw [11] (fun c wr => ∃ (j : Nat) (W : World), W = wr ∧ j ≤ n ∧ c = .int .i64 j ∧ Hid (KeptIn (· < w.heap.size) w W ∧ BoxL w.heap.size lv a n cap W ∧ ∀ i, i < j → keyAt ps i < k)) (fun c _ => n - (RowKit.intOf c).toNat)
  case atStart => exact ⟨0, _, rfl, Nat.zero_le _, rfl, HJ0⟩
  case round =>
    obtain ⟨j, W, rfl, hj, rfl, HJ⟩ := hrel
    clear HJ0
    have d0 : (0 : Int) ≤ (j : Int) := by omega
    by_cases hlt : j < n
    · have d1 : (j : Int) < (n : Int) := by omega
      have hjl : j < ps.length := by rw [HN.out]; exact hlt
      obtain ⟨b, off, rfl, hb, hc⟩ := (H.out.old HJ.out.1).cells (by omega)
      obtain ⟨e1, e2⟩ := hc j hjl
      obtain ⟨f1, f2⟩ := H.out.fits.at hjl
      obtain ⟨x, hx⟩ : ∃ x, keyAt ps j = x := ⟨_, rfl⟩
      obtain ⟨y, hy⟩ : ∃ y, valAt ps j = y := ⟨_, rfl⟩
      have HX := Lib.hid hx
      rw [hx] at e1 f1
      rw [hy] at e2 f2
      have hal : KeptIn (· < w.heap.size) w (W.alloc (.cells #[.int .u64 x, .int .u64 y] 38)) := HJ.out.1.alloc (fun _ h => h) _
      have HAL := Lib.hid hal
      have HBL := Lib.hid (HJ.out.2.1.kept ((KeptIn.refl (· < W.heap.size) W).alloc (fun _ h => h) (.cells #[.int .u64 x, .int .u64 y] 38)) HJ.out.2.1.lt)
      have KEND : Hid (∀ q, KeptIn (· < w.heap.size) w ((W.alloc (.cells #[.int .u64 x, .int .u64 y] 38)).drewN q)) := Lib.hid fun q => HAL.out.drewN q
      clear hc hx hy hj hb hal
      by_cases hkx : (k : Int) ≤ (x : Int)
      · have hb : rb = j := by
          rw [← HR.out.1]
          exact below_at HR.out.2.2 (by omega) HJ.out.2.2 (fun _ => by rw [HX.out]; omega)
        have hh : rh = decide (x = k) := by
          rw [← HR.out.2.1, ← HX.out]
          exact has_at HR.out.2.2 hjl HJ.out.2.2 (by rw [HX.out]; omega)
        subst hb
        by_cases hne : x = k
        · rw [decide_eq_true hne] at hh
          subst hh
          subst hne
          have hne : True := trivial
          clear HJ hne
          go_wp2_with fail
          go_quiet (fail)
          go_wp2_with fail
          go_ret2
          exact ⟨rfl, KEND.out _⟩
        · rw [decide_eq_false hne] at hh
          subst hh
          have q1 : ((x : Int) == (k : Int)) = false := by rw [beq_eq_false_iff_ne]; omega
          have q2 : (x == k) = false := by rw [beq_eq_false_iff_ne]; exact hne
          clear HJ hne
          go_wp2_with fail
          go_quiet (fail)
          go_wp2_with fail
          go_ret2
          exact ⟨rfl, KEND.out _⟩
      · have hkx' : (x : Int) < (k : Int) := by omega
        have HJ2 : Hid (KeptIn (· < w.heap.size) w (W.alloc (.cells #[.int .u64 x, .int .u64 y] 38)) ∧ BoxL w.heap.size lv (some ⟨b, off, none⟩) n cap (W.alloc (.cells #[.int .u64 x, .int .u64 y] 38)) ∧ ∀ i, i < j + 1 → keyAt ps i < k) := Lib.hid ⟨HAL.out, HBL.out, fun i hi => by
          rcases Nat.lt_or_ge i j with h | h
          · exact HJ.out.2.2 i h
          · have e : i = j := by omega
            rw [e, HX.out]; omega⟩
        clear HJ hkx HAL HBL
        go_wp2_with fail
        go_roundw
        case rel => exact ⟨j + 1, _, rfl, by omega, by go_num, HJ2⟩
        case measure => simp [RowKit.intOf]; omega
    · have d1 : (n : Int) ≤ (j : Int) := by omega
      have hb : rb = n := by
        rw [← HR.out.1]
        exact below_at HR.out.2.2 (by rw [HN.out]; exact Nat.le_refl _) (fun i hi => HJ.out.2.2 i (by omega)) (fun h => absurd h (by rw [HN.out]; omega))
      have hh : rh = false := by
        rw [← HR.out.2.1]
        exact has_none fun i hi => HJ.out.2.2 i (by rw [HN.out] at hi; omega)
      subst hb hh
      have c1 := HJ.out.2.1.c1
      have HK := Lib.hid HJ.out.1
      clear HJ
      go_wp2_with fail
      go_ret2
      exact ⟨rfl, HK.out⟩

end Go.Proofs.Ytlnlgapjlekehaa
