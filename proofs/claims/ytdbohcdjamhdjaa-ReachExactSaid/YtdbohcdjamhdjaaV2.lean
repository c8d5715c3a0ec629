import Derived.Test.YtdbohcdjamhdjaaV1
import Derived.Test.YtdbohcdjamhdjaaProg
import Derived.Deep.QuietTactic
import Derived.BigQuiet
import Derived.BigRegion
import Derived.Deep.RegionHeld3
import Derived.LoopTactic
import Derived.Outline
import Derived.Lib.Hide
/- Rows of pairs in memory; package leaf's Good. -/
set_option linter.unusedVariables false
namespace Go.Proofs.Ytdbohcdjamhdjaa
open Go.RowKit

/-- A slice's value reads as the pairs ps. -/
structure IsPs (W : World) (a : Option Addr) (ps : Pairs) : Prop where
  len : ps.length ≤ maxLen
  fits : Fits ps
  cells : 0 < ps.length → ∃ b off, a = some ⟨b, off, none⟩ ∧ b < W.heap.size ∧ ∀ i, i < ps.length →
    W.cell? ⟨b, off + i * 2, none⟩ = some (.int .u64 (keyAt ps i)) ∧ W.cell? ⟨b, off + i * 2 + 1, none⟩ = some (.int .u64 (valAt ps i))

theorem IsPs.kept {X : Nat → Prop} {W W' : World} {a : Option Addr} {ps : Pairs} (h : IsPs W a ps) (hk : KeptIn X W W') (hX : ∀ k, k < W.heap.size → X k) : IsPs W' a ps :=
  ⟨h.len, h.fits, fun hp => by
    obtain ⟨b, off, e, hb, hc⟩ := h.cells hp
    exact ⟨b, off, e, Nat.lt_of_lt_of_le hb hk.size, fun i hi => ⟨(World.cell?_of_block (a := ⟨b, off + i * 2, none⟩) (hk.block b (hX b hb))).trans (hc i hi).1, (World.cell?_of_block (a := ⟨b, off + i * 2 + 1, none⟩) (hk.block b (hX b hb))).trans (hc i hi).2⟩⟩⟩
theorem IsPs.old {W W' : World} {a : Option Addr} {ps : Pairs} (h : IsPs W a ps) (hk : KeptIn (· < W.heap.size) W W') : IsPs W' a ps := h.kept hk fun _ h => h
theorem IsPs.none (W : World) (a : Option Addr) : IsPs W a [] := ⟨Nat.zero_le _, (fun p hp => by cases hp), fun h => absurd h (Nat.lt_irrefl 0)⟩

/-- A node as a value. -/
def leafV (lv : Int) (a : Option Addr) (n cap : Nat) : Value := .agg #[.int .i64 lv, .slice a n cap]

theorem lfCount (lv : Int) (a : Option Addr) (n cap : Nat) (w : World) (hn : n ≤ maxLen) :
    Calls Try.prog 95 #[leafV lv a n cap] w fun e w' => e = .returned (.bool (countOk lv n)) ∧ KeptIn (· < w.heap.size) w w' := by
  unfold leafV
  unfold maxLen at hn
  have hn' : (n : Int) ≤ 9223372036854775807 := by omega
  clear hn
  by_cases h1 : lv < 0
  · rw [show countOk lv n = false by simp [countOk]; omega]
    go_enter Try.func95, Try.ntmps95
    go_wp2
    go_ret
    exact ⟨rfl, (KeptIn.refl _ _).alloc (fun _ h => h) _⟩
  by_cases h2 : 8 ≤ lv
  · rw [show countOk lv n = false by simp [countOk]; omega]
    go_enter Try.func95, Try.ntmps95
    go_wp2
    go_ret
    exact ⟨rfl, (KeptIn.refl _ _).alloc (fun _ h => h) _⟩
  by_cases h3 : 15 < (n : Int)
  · rw [show countOk lv n = false by simp [countOk]; omega]
    go_enter Try.func95, Try.ntmps95
    go_wp2
    go_ret
    exact ⟨rfl, (KeptIn.refl _ _).alloc (fun _ h => h) _⟩
  by_cases h4 : lv = 0
  · subst h4
    rw [show countOk 0 n = true by simp [countOk]; omega]
    go_enter Try.func95, Try.ntmps95
    go_wp2
    go_ret
    exact ⟨rfl, (KeptIn.refl _ _).alloc (fun _ h => h) _⟩
  have h4' : (lv == 0) = false := by rw [beq_eq_false_iff_ne]; exact h4
  rw [show countOk lv n = decide (0 < n) by
    unfold countOk
    rw [decide_eq_false h4, decide_eq_true (by omega : 0 ≤ lv), decide_eq_true (by omega : lv ≤ 7), decide_eq_true (by omega : n ≤ 15)]
    rfl]
  clear h4
  go_enter Try.func95, Try.ntmps95
  go_wp2
  go_ret
  exact ⟨rfl, (KeptIn.refl _ _).alloc (fun _ h => h) _⟩

set_option maxRecDepth 100000 in
theorem lfRise (a : Option Addr) (cap : Nat) (ps : Pairs) (w : World) (h : IsPs w a ps) :
    Calls Try.prog 96 #[.slice a ps.length cap] w fun e w' => e = .returned (.bool (rises ps)) ∧ KeptIn (· < w.heap.size) w w' := by
  obtain ⟨n, hn⟩ : ∃ n, ps.length = n := ⟨_, rfl⟩
  obtain ⟨r, hr⟩ : ∃ r, rises ps = r := ⟨_, rfl⟩
  have hm : (n : Int) ≤ 9223372036854775807 := by have := h.len; unfold maxLen at this; omega
  have H := Lib.hid h
  have HN := Lib.hid hn
  have HR := Lib.hid hr
  rw [hn, hr]
  clear h hn hr
  go_enter Try.func96, Try.ntmps96
  go_wp2_with fail
  go_loopw [3] (fun c wr => ∃ (j : Nat) (W : World), W = wr ∧ (j ≤ n ∨ j = 1) ∧ 1 ≤ j ∧ c = .int .i64 j ∧ Hid (KeptIn (· < w.heap.size) w W ∧ ∀ i, i + 1 < j → keyAt ps i < keyAt ps (i + 1))) (fun c _ => n - (RowKit.intOf c).toNat)
  case atStart => exact ⟨1, _, rfl, .inr rfl, Nat.le_refl _, rfl, Lib.hid ⟨.refl _ _, fun i hi => absurd hi (by omega)⟩⟩
  case round =>
    obtain ⟨j, W, rfl, hj, hj1, rfl, HJ⟩ := hrel
    have d0 : (0 : Int) ≤ (j : Int) := by omega
    by_cases hlt : j < n
    · have d1 : (j : Int) < (n : Int) := by omega
      obtain ⟨i, rfl⟩ : ∃ i, j = i + 1 := ⟨j - 1, by omega⟩
      obtain ⟨b, off, rfl, hb, hc⟩ := (H.out.old HJ.out.1).cells (by rw [HN.out]; omega)
      have e1 := (hc i (by rw [HN.out]; omega)).1
      have e2 := (hc (i + 1) (by rw [HN.out]; omega)).1
      have f1 := (H.out.fits.at (i := i) (by rw [HN.out]; omega)).1
      have f2 := (H.out.fits.at (i := i + 1) (by rw [HN.out]; omega)).1
      obtain ⟨x, hx⟩ : ∃ x, keyAt ps i = x := ⟨_, rfl⟩
      obtain ⟨y, hy⟩ : ∃ y, keyAt ps (i + 1) = y := ⟨_, rfl⟩
      have HXY := Lib.hid (And.intro hx hy)
      rw [hx] at e1 f1
      rw [hy] at e2 f2
      have d2 : wrap64 (((i + 1 : Nat) : Int) - 1) = (i : Int) := by unfold wrap64; omega
      have d3 : (0 : Int) ≤ (i : Int) := by omega
      have d4 : (i : Int) < (n : Int) := by omega
      clear hc hx hy hj
      by_cases hxy : (y : Int) ≤ (x : Int)
      · have hf : r = false := by
          rw [← HR.out]
          exact rises_false i (by rw [HN.out]; omega) (by rw [HXY.out.1, HXY.out.2]; omega)
        subst hf
        have HK := Lib.hid HJ.out.1
        clear HJ
        go_wp2_with fail
        go_quiet (fail)
        go_wp2_with fail
        go_ret
        exact ⟨rfl, HK.out.drewN _⟩
      · have hxy' : (x : Int) < (y : Int) := by omega
        have HJ2 : Hid (∀ q, KeptIn (· < w.heap.size) w (W.drewN q) ∧ ∀ k, k + 1 < i + 1 + 1 → keyAt ps k < keyAt ps (k + 1)) := Lib.hid fun q => ⟨HJ.out.1.drewN q, fun k hk => by
          rcases Nat.lt_or_ge (k + 1) (i + 1) with h | h
          · exact HJ.out.2 k h
          · obtain rfl : k = i := by omega
            rw [HXY.out.1, HXY.out.2]; omega⟩
        clear HJ hxy
        go_wp2_with fail
        go_quiet (fail)
        go_wp2_with fail
        go_roundw
        case rel => exact ⟨i + 1 + 1, _, rfl, .inl (by omega), by omega, by go_num, Lib.hid (HJ2.out _)⟩
        case measure => simp [RowKit.intOf]; omega
    · have d1 : (n : Int) ≤ (j : Int) := by omega
      have hf : r = true := by
        rw [← HR.out, rises_iff, HN.out]
        exact fun i hi => HJ.out.2 i (by omega)
      subst hf
      have HK := Lib.hid HJ.out.1
      clear HJ
      go_wp2_with fail
      go_ret
      exact ⟨rfl, HK.out⟩

/-- A pair as a value. -/
def pairV (p : Nat × Nat) : Value := .agg #[.int .u64 p.1, .int .u64 p.2]

theorem lfLeads1 (p : Nat × Nat) (w : World) (h : p.2 < 18446744073709551616) :
    Calls Try.prog 100 #[pairV p] w fun e w' => e = .returned (.bool (!(decide (1 ≤ p.2) && decide (p.2 ≤ 511)))) ∧ KeptIn (· < w.heap.size) w w' := by
  obtain ⟨k, v⟩ := p
  unfold pairV
  by_cases h1 : (v : Int) < 1
  · rw [show (!(decide (1 ≤ v) && decide (v ≤ 511))) = true by simp; omega]
    go_enter Try.func100, Try.ntmps100
    go_wp2
    go_ret
    exact ⟨rfl, (KeptIn.refl _ _).alloc (fun _ h => h) _⟩
  by_cases h2 : (512 : Int) ≤ (v : Int)
  · rw [show (!(decide (1 ≤ v) && decide (v ≤ 511))) = true by simp; omega]
    go_enter Try.func100, Try.ntmps100
    go_wp2
    go_ret
    exact ⟨rfl, (KeptIn.refl _ _).alloc (fun _ h => h) _⟩
  · rw [show (!(decide (1 ≤ v) && decide (v ≤ 511))) = false by simp; omega]
    go_enter Try.func100, Try.ntmps100
    go_wp2
    go_ret
    exact ⟨rfl, (KeptIn.refl _ _).alloc (fun _ h => h) _⟩

/-- slices.IndexFunc at pairs: the first place at which a function says yes. The function writes nothing that lies. -/
theorem pIndex (a : Option Addr) (cap : Nat) (ps : Pairs) (w : World) (h : IsPs w a ps) :
    Calls Try.prog 101 #[.slice a ps.length cap, .func (.func 100) #[] #[]] w fun e w' => (∃ i : Int, e = .returned (.int .i64 i) ∧ (0 ≤ i ↔ pagesOk ps = false) ∧ -1 ≤ i) ∧ KeptIn (· < w.heap.size) w w' := by
  obtain ⟨n, hn⟩ : ∃ n, ps.length = n := ⟨_, rfl⟩
  have hm : (n : Int) ≤ 9223372036854775807 := by have := h.len; unfold maxLen at this; omega
  have H := Lib.hid h
  have HN := Lib.hid hn
  rw [hn]
  clear h hn
  go_enter Try.func101, Try.ntmps101
  go_wp2_with fail
  go_loopw [5, 8] (fun _ c wr => ∃ (j : Nat) (W : World), W = wr ∧ j ≤ n ∧ c = .int .i64 j ∧ Hid (KeptIn (· < w.heap.size) w W ∧ ∀ i, i < j → 1 ≤ valAt ps i ∧ valAt ps i ≤ 511)) (fun _ c _ => n - (RowKit.intOf c).toNat)
  case atStart => exact ⟨0, _, rfl, Nat.zero_le _, rfl, Lib.hid ⟨.refl _ _, fun i hi => absurd hi (by omega)⟩⟩
  case round =>
    obtain ⟨j, W, rfl, hj, rfl, HJ⟩ := hrel
    have d0 : (0 : Int) ≤ (j : Int) := by omega
    by_cases hlt : j < n
    · have d1 : (j : Int) < (n : Int) := by omega
      obtain ⟨b, off, rfl, hb, hc⟩ := (H.out.old HJ.out.1).cells (by rw [HN.out]; omega)
      have e1 := (hc j (by rw [HN.out]; omega)).1
      have e2 := (hc j (by rw [HN.out]; omega)).2
      have C := Lib.hid (fun V => lfLeads1 (keyAt ps j, valAt ps j) V (H.out.fits.at (i := j) (by rw [HN.out]; omega)).2)
      unfold pairV at C
      obtain ⟨x, hx⟩ : ∃ x, keyAt ps j = x := ⟨_, rfl⟩
      obtain ⟨y, hy⟩ : ∃ y, valAt ps j = y := ⟨_, rfl⟩
      have HXY := Lib.hid (And.intro hx hy)
      rw [hx] at e1
      rw [hy] at e2
      rw [hx, hy] at C
      clear hc hx hy hj
      have HJW := Lib.hid HJ.out.1
      by_cases hok : 1 ≤ y ∧ y ≤ 511
      · have HJ2 : Hid (∀ i, i < j + 1 → 1 ≤ valAt ps i ∧ valAt ps i ≤ 511) := Lib.hid fun i hi => by
          rcases Nat.lt_or_ge i j with h | h
          · exact HJ.out.2 i h
          · obtain rfl : i = j := by omega
            rw [HXY.out.2]; exact hok
        have hv : (!(decide (1 ≤ y) && decide (y ≤ 511))) = false := by simp; exact hok
        simp only [hv] at C
        clear HJ hok hv
        go_wp2_with (go_at_call 100; refine (C.out _).mono ?_)
        rintro e V ⟨rfl, hk⟩
        have HK : Hid (KeptIn (· < w.heap.size) w V) := Lib.hid (HJW.out.trans (hk.mono fun k h => Nat.lt_of_lt_of_le h HJW.out.size))
        clear hk
        go_wp2_with fail
        go_roundw
        case rel => exact ⟨j + 1, _, rfl, by omega, by go_num, Lib.hid ⟨HK.out, HJ2.out⟩⟩
        case measure => simp [RowKit.intOf]; omega
      · have HP : Hid (pagesOk ps = false) := Lib.hid (by
          rw [Bool.eq_false_iff]
          intro h1
          have := (pagesOk_iff ps).1 h1 j (by rw [HN.out]; exact hlt)
          rw [HXY.out.2] at this
          exact hok this)
        have hv : (!(decide (1 ≤ y) && decide (y ≤ 511))) = true := by simp; omega
        simp only [hv] at C
        clear HJ hok hv
        go_wp2_with (go_at_call 100; refine (C.out _).mono ?_)
        rintro e V ⟨rfl, hk⟩
        have HK : Hid (KeptIn (· < w.heap.size) w V) := Lib.hid (HJW.out.trans (hk.mono fun k h => Nat.lt_of_lt_of_le h HJW.out.size))
        clear hk
        go_wp2_with fail
        go_ret
        exact ⟨⟨_, rfl, ⟨fun _ => HP.out, fun _ => d0⟩, by omega⟩, HK.out⟩
    · have d1 : (n : Int) ≤ (j : Int) := by omega
      have HP : Hid (pagesOk ps = true) := Lib.hid (by
        rw [pagesOk_iff, HN.out]
        exact fun i hi => HJ.out.2 i (by omega))
      have HK := Lib.hid HJ.out.1
      clear HJ
      go_wp2_with fail
      go_ret
      exact ⟨⟨_, rfl, by rw [HP.out]; simp, by omega⟩, HK.out⟩

theorem pContains (a : Option Addr) (cap : Nat) (ps : Pairs) (w : World) (h : IsPs w a ps) :
    Calls Try.prog 99 #[.slice a ps.length cap, .func (.func 100) #[] #[]] w fun e w' => e = .returned (.bool (!pagesOk ps)) ∧ KeptIn (· < w.heap.size) w w' := by
  have C := Lib.hid (pIndex a cap ps w h)
  have hm : (ps.length : Int) ≤ 9223372036854775807 := by have := h.len; unfold maxLen at this; omega
  generalize ps.length = n at *
  generalize pagesOk ps = p at *
  clear h
  go_enter Try.func99, Try.ntmps99
  go_wp2_with (go_at_call 101; refine C.out.mono ?_)
  rintro e V ⟨⟨i, rfl, hi, h1⟩, hk⟩
  by_cases h0 : 0 ≤ i
  · obtain rfl := hi.1 h0
    clear hi
    go_wp2_with fail
    go_ret
    exact ⟨rfl, hk⟩
  · obtain rfl : p = true := by
      cases p with
      | true => rfl
      | false => exact absurd (hi.2 rfl) h0
    clear hi
    go_wp2_with fail
    go_ret
    refine ⟨?_, hk⟩
    show Ending.returned (.bool (decide (0 ≤ i))) = _
    rw [decide_eq_false (by omega)]
    rfl

theorem lfLeads (a : Option Addr) (cap : Nat) (ps : Pairs) (w : World) (h : IsPs w a ps) :
    Calls Try.prog 97 #[.slice a ps.length cap] w fun e w' => e = .returned (.bool (pagesOk ps)) ∧ KeptIn (· < w.heap.size) w w' := by
  have C := Lib.hid (pContains a cap ps w h)
  have hm : (ps.length : Int) ≤ 9223372036854775807 := by have := h.len; unfold maxLen at this; omega
  generalize ps.length = n at *
  clear h
  obtain ⟨r, hr⟩ : ∃ r, pagesOk ps = r := ⟨_, rfl⟩
  rw [hr] at C ⊢
  clear hr
  go_enter Try.func97, Try.ntmps97
  go_wp2_with (go_at_call 99; refine C.out.mono ?_)
  rintro e V ⟨rfl, hk⟩
  cases r
  · go_wp2_with fail
    go_ret
    exact ⟨rfl, hk⟩
  · go_wp2_with fail
    go_ret
    exact ⟨rfl, hk⟩

theorem lfGood (lv : Int) (a : Option Addr) (cap : Nat) (ps : Pairs) (w : World) (h : IsPs w a ps) :
    Calls Try.prog 88 #[leafV lv a ps.length cap] w fun e w' => e = .returned (.bool (goodN lv ps)) ∧ KeptIn (· < w.heap.size) w w' := by
  have hlen := h.len
  have C1 := Lib.hid fun V => lfCount lv a ps.length cap V hlen
  have C2 := Lib.hid fun V (hk : KeptIn (· < w.heap.size) w V) => lfRise a cap ps V (h.old hk)
  have C3 := Lib.hid fun V (hk : KeptIn (· < w.heap.size) w V) => lfLeads a cap ps V (h.old hk)
  have hm : (ps.length : Int) ≤ 9223372036854775807 := by have := h.len; unfold maxLen at this; omega
  unfold goodN leafV at *
  generalize ps.length = n at *
  generalize countOk lv n = c at *
  generalize rises ps = r at *
  generalize pagesOk ps = p at *
  generalize hz : decide (lv = 0) = z
  have HZ := Lib.hid hz
  clear h hlen hz
  cases c
  · go_enter Try.func88, Try.ntmps88
    go_wp2_with (go_at_call 95; refine (C1.out _).mono ?_)
    rintro e V1 ⟨rfl, k1⟩
    have K1 : Hid (KeptIn (· < w.heap.size) w V1) := Lib.hid (((KeptIn.refl _ w).alloc (fun _ h => h) _).trans (k1.mono fun k h => by simp; omega))
    clear k1
    go_wp2_with fail
    go_ret
    exact ⟨rfl, K1.out⟩
  · go_enter Try.func88, Try.ntmps88
    go_wp2_with (go_at_call 95; refine (C1.out _).mono ?_)
    rintro e V1 ⟨rfl, k1⟩
    have hb1 : V1.heap[w.heap.size]? = some (.cells #[.int .i64 lv, .slice a n cap] 27 (0, 0)) := (k1.block _ (by simp)).trans (heap_alloc_new w _)
    have K1 : Hid (KeptIn (· < w.heap.size) w V1) := Lib.hid (((KeptIn.refl _ w).alloc (fun _ h => h) _).trans (k1.mono fun k h => by simp; omega))
    have c0 : V1.cell? ⟨w.heap.size, 0, none⟩ = some (.int .i64 lv) := by simp [World.cell?, hb1]
    have c1 : V1.cell? ⟨w.heap.size, 1, none⟩ = some (.slice a n cap) := by simp [World.cell?, hb1]
    have HB := Lib.hid hb1
    clear k1 hb1
    cases r
    · go_wp2_with (go_at_call 96; refine (C2.out _ K1.out).mono ?_)
      rintro e V2 ⟨rfl, k2⟩
      have K2 : Hid (KeptIn (· < w.heap.size) w V2) := Lib.hid (K1.out.trans (k2.mono fun k h => Nat.lt_of_lt_of_le h K1.out.size))
      clear k2
      go_wp2_with fail
      go_ret
      exact ⟨rfl, K2.out⟩
    · go_wp2_with (go_at_call 96; refine (C2.out _ K1.out).mono ?_)
      rintro e V2 ⟨rfl, k2⟩
      have hb2 : V2.heap[w.heap.size]? = some (.cells #[.int .i64 lv, .slice a n cap] 27 (0, 0)) := (k2.block _ (Array.getElem?_eq_some_iff.1 HB.out).1).trans HB.out
      have K2 : Hid (KeptIn (· < w.heap.size) w V2) := Lib.hid (K1.out.trans (k2.mono fun k h => Nat.lt_of_lt_of_le h K1.out.size))
      have c0' : V2.cell? ⟨w.heap.size, 0, none⟩ = some (.int .i64 lv) := by simp [World.cell?, hb2]
      have c1' : V2.cell? ⟨w.heap.size, 1, none⟩ = some (.slice a n cap) := by simp [World.cell?, hb2]
      clear k2 hb2 c0 c1
      by_cases h0 : lv = 0
      · obtain rfl : z = true := by rw [← HZ.out]; exact decide_eq_true h0
        clear HZ
        subst h0
        go_wp2_with fail
        go_ret
        exact ⟨rfl, K2.out⟩
      · have h0' : (lv == 0) = false := by rw [beq_eq_false_iff_ne]; exact h0
        obtain rfl : z = false := by rw [← HZ.out]; exact decide_eq_false h0
        clear h0 HZ
        go_wp2_with (go_at_call 97; refine (C3.out _ K2.out).mono ?_)
        rintro e V3 ⟨rfl, k3⟩
        have K3 : Hid (KeptIn (· < w.heap.size) w V3) := Lib.hid (K2.out.trans (k3.mono fun k h => Nat.lt_of_lt_of_le h K2.out.size))
        clear k3
        go_wp2_with fail
        go_ret
        exact ⟨rfl, K3.out⟩

end Go.Proofs.Ytdbohcdjamhdjaa
/- A boxed node. -/
set_option linter.unusedVariables false
namespace Go.Proofs.Ytdbohcdjamhdjaa
open Go.RowKit

/-- A node, boxed. -/
def BoxL (x : Nat) (lv : Int) (a : Option Addr) (n cap : Nat) (W : World) : Prop := W.heap[x]? = some (.cells #[.int .i64 lv, .slice a n cap] 27 (0, 0))
section
variable {x n cap : Nat} {lv : Int} {a : Option Addr} {W W' : World}
theorem BoxL.c0 (h : BoxL x lv a n cap W) : W.cell? ⟨x, 0, none⟩ = some (.int .i64 lv) := by simp [World.cell?, show W.heap[x]? = _ from h]
theorem BoxL.c1 (h : BoxL x lv a n cap W) : W.cell? ⟨x, 1, none⟩ = some (.slice a n cap) := by simp [World.cell?, show W.heap[x]? = _ from h]
theorem BoxL.f0 (h : BoxL x lv a n cap W) : W.frozen? ⟨x, 0, none⟩ = false := by simp [World.frozen?, show W.heap[x]? = _ from h]
theorem BoxL.f1 (h : BoxL x lv a n cap W) : W.frozen? ⟨x, 1, none⟩ = false := by simp [World.frozen?, show W.heap[x]? = _ from h]
theorem BoxL.lt (h : BoxL x lv a n cap W) : x < W.heap.size := (Array.getElem?_eq_some_iff.1 h).1
theorem BoxL.kept {X : Nat → Prop} (h : BoxL x lv a n cap W) (hk : KeptIn X W W') (hX : X x) : BoxL x lv a n cap W' := (hk.block x hX).trans h
theorem BoxL.new (w : World) (lv : Int) (a : Option Addr) (n cap : Nat) : BoxL w.heap.size lv a n cap (w.alloc (.cells #[.int .i64 lv, .slice a n cap] 27)) := heap_alloc_new w _
end


end Go.Proofs.Ytdbohcdjamhdjaa
/- Package leaf's Find. -/
set_option linter.unusedVariables false
namespace Go.Proofs.Ytdbohcdjamhdjaa
open Go.RowKit

/-- How many keys are below, are not above; whether one is the key. -/
def belowK (ps : Pairs) (k : Nat) : Nat := ps.countP fun p => decide (p.1 < k)
def uptoK (ps : Pairs) (k : Nat) : Nat := ps.countP fun p => decide (p.1 ≤ k)
def hasK (ps : Pairs) (k : Nat) : Bool := ps.any fun p => p.1 == k

theorem countP_cut (ps : Pairs) (q : Nat × Nat → Bool) (i : Nat) (hi : i ≤ ps.length) (h1 : ∀ j (h : j < ps.length), j < i → q ps[j] = true) (h2 : ∀ j (h : j < ps.length), i ≤ j → q ps[j] = false) : ps.countP q = i := by
  have e : ps = ps.take i ++ ps.drop i := (List.take_append_drop ..).symm
  rw [e, List.countP_append]
  have a : (ps.take i).countP q = i := by
    have : (ps.take i).countP q = (ps.take i).length := by
      rw [List.countP_eq_length]
      intro p hp
      obtain ⟨j, hj, rfl⟩ := List.getElem_of_mem hp
      rw [List.getElem_take]
      rw [List.length_take] at hj
      exact h1 j (by omega) (by omega)
    rw [this, List.length_take]; omega
  have b : (ps.drop i).countP q = 0 := by
    rw [List.countP_eq_zero]
    intro p hp
    obtain ⟨j, hj, rfl⟩ := List.getElem_of_mem hp
    rw [List.getElem_drop]
    rw [List.length_drop] at hj
    rw [h2 (i + j) (by omega) (by omega)]
    decide
  omega

theorem below_at {ps : Pairs} {k i : Nat} (hr : rises ps = true) (hi : i ≤ ps.length) (h1 : ∀ j, j < i → keyAt ps j < k) (h2 : i < ps.length → k ≤ keyAt ps i) : belowK ps k = i := by
  refine countP_cut ps _ i hi (fun j h hj => ?_) (fun j h hj => ?_)
  · have := h1 j hj
    rw [keyAt_get h] at this
    exact decide_eq_true this
  · have a := h2 (by omega)
    have b : keyAt ps i ≤ keyAt ps j := by
      rcases Nat.lt_or_ge i j with h' | h'
      · exact Nat.le_of_lt (rises_lt hr h' h)
      · obtain rfl : i = j := by omega
        exact Nat.le_refl _
    rw [keyAt_get h] at b
    exact decide_eq_false (by omega)

theorem upto_at {ps : Pairs} {k i : Nat} (hr : rises ps = true) (hi : i ≤ ps.length) (h1 : 0 < i → keyAt ps (i - 1) ≤ k) (h2 : ∀ j, i ≤ j → j < ps.length → k < keyAt ps j) : uptoK ps k = i := by
  refine countP_cut ps _ i hi (fun j h hj => ?_) (fun j h hj => ?_)
  · have a := h1 (by omega)
    have b : keyAt ps j ≤ keyAt ps (i - 1) := by
      rcases Nat.lt_or_ge j (i - 1) with h' | h'
      · exact Nat.le_of_lt (rises_lt hr h' (by omega))
      · obtain rfl : j = i - 1 := by omega
        exact Nat.le_refl _
    rw [keyAt_get h] at b
    exact decide_eq_true (by omega)
  · have := h2 j hj h
    rw [keyAt_get h] at this
    exact decide_eq_false (by omega)

theorem has_at {ps : Pairs} {k i : Nat} (hr : rises ps = true) (hi : i < ps.length) (h1 : ∀ j, j < i → keyAt ps j < k) (h2 : k ≤ keyAt ps i) : hasK ps k = decide (keyAt ps i = k) := by
  rw [Bool.eq_iff_iff, decide_eq_true_iff]
  unfold hasK
  rw [List.any_eq_true]
  constructor
  · rintro ⟨p, hp, he⟩
    obtain ⟨j, hj, rfl⟩ := List.getElem_of_mem hp
    have he' : ps[j].1 = k := by simpa using he
    rw [← keyAt_get hj] at he'
    rcases Nat.lt_trichotomy j i with h | h | h
    · have := h1 j h; omega
    · rw [← h]; exact he'
    · have := rises_lt hr h hj; omega
  · intro h
    refine ⟨ps[i], List.getElem_mem hi, ?_⟩
    rw [keyAt_get hi] at h
    simpa using h

theorem has_none {ps : Pairs} {k : Nat} (h1 : ∀ j, j < ps.length → keyAt ps j < k) : hasK ps k = false := by
  unfold hasK
  rw [List.any_eq_false]
  intro p hp
  obtain ⟨j, hj, rfl⟩ := List.getElem_of_mem hp
  have := h1 j hj
  rw [keyAt_get hj] at this
  simp; omega

set_option maxHeartbeats 1000000 in
set_option maxRecDepth 100000 in
theorem lfFind (lv : Int) (a : Option Addr) (cap : Nat) (ps : Pairs) (k : Nat) (w : World) (h : IsPs w a ps) (hr : rises ps = true) (hk : k < 18446744073709551616) :
    Calls Try.prog 71 #[leafV lv a ps.length cap, .int .u64 k] w fun e w' => e = .returned (.tuple #[.int .i64 (belowK ps k), .bool (hasK ps k)]) ∧ KeptIn (· < w.heap.size) w w' := by
  obtain ⟨n, hn⟩ : ∃ n, ps.length = n := ⟨_, rfl⟩
  have hm : (n : Int) ≤ 9223372036854775807 := by have := h.len; unfold maxLen at this; omega
  obtain ⟨rb, hrb⟩ : ∃ rb, belowK ps k = rb := ⟨_, rfl⟩
  obtain ⟨rh, hrh⟩ : ∃ rh, hasK ps k = rh := ⟨_, rfl⟩
  unfold leafV
  rw [hrb, hrh, hn]
  have H := Lib.hid h
  have HN := Lib.hid hn
  have HR := Lib.hid (And.intro hrb (And.intro hrh hr))
  have HJ0 : Hid (KeptIn (· < w.heap.size) w (w.alloc (.cells #[.int .i64 lv, .slice a n cap] 27)) ∧ BoxL w.heap.size lv a n cap (w.alloc (.cells #[.int .i64 lv, .slice a n cap] 27)) ∧ ∀ i, i < 0 → keyAt ps i < k) := Lib.hid ⟨(KeptIn.refl _ w).alloc (fun _ h => h) _, BoxL.new w lv a n cap, fun i hi => absurd hi (by omega)⟩
  clear h hn hrb hrh hr
  go_enter Try.func71, Try.ntmps71
  go_wp2_with fail
  go_loopw [11] (fun c wr => ∃ (j : Nat) (W : World), W = wr ∧ j ≤ n ∧ c = .int .i64 j ∧ Hid (KeptIn (· < w.heap.size) w W ∧ BoxL w.heap.size lv a n cap W ∧ ∀ i, i < j → keyAt ps i < k)) (fun c _ => n - (RowKit.intOf c).toNat)
  case atStart => exact ⟨0, _, rfl, Nat.zero_le _, rfl, HJ0⟩
  case round =>
    obtain ⟨j, W, rfl, hj, rfl, HJ⟩ := hrel
    clear HJ0
    have d0 : (0 : Int) ≤ (j : Int) := by omega
    by_cases hlt : j < n
    · have d1 : (j : Int) < (n : Int) := by omega
      have hjl : j < ps.length := by rw [HN.out]; exact hlt
      obtain ⟨b, off, rfl, hb, hc⟩ := (H.out.old HJ.out.1).cells (by omega)
      obtain ⟨e1, e2⟩ := hc j hjl
      obtain ⟨f1, f2⟩ := H.out.fits.at hjl
      obtain ⟨x, hx⟩ : ∃ x, keyAt ps j = x := ⟨_, rfl⟩
      obtain ⟨y, hy⟩ : ∃ y, valAt ps j = y := ⟨_, rfl⟩
      have HX := Lib.hid hx
      rw [hx] at e1 f1
      rw [hy] at e2 f2
      have hal : KeptIn (· < w.heap.size) w (W.alloc (.cells #[.int .u64 x, .int .u64 y] 82)) := HJ.out.1.alloc (fun _ h => h) _
      have HAL := Lib.hid hal
      have HBL := Lib.hid (HJ.out.2.1.kept ((KeptIn.refl (· < W.heap.size) W).alloc (fun _ h => h) (.cells #[.int .u64 x, .int .u64 y] 82)) HJ.out.2.1.lt)
      have KEND : Hid (∀ q, KeptIn (· < w.heap.size) w ((W.alloc (.cells #[.int .u64 x, .int .u64 y] 82)).drewN q)) := Lib.hid fun q => HAL.out.drewN q
      clear hc hx hy hj hb hal
      by_cases hkx : (k : Int) ≤ (x : Int)
      · have hb : rb = j := by
          rw [← HR.out.1]
          exact below_at HR.out.2.2 (by omega) HJ.out.2.2 (fun _ => by rw [HX.out]; omega)
        have hh : rh = decide (x = k) := by
          rw [← HR.out.2.1, ← HX.out]
          exact has_at HR.out.2.2 hjl HJ.out.2.2 (by rw [HX.out]; omega)
        subst hb
        by_cases hne : x = k
        · rw [decide_eq_true hne] at hh
          subst hh
          subst hne
          have hne : True := trivial
          clear HJ hne
          go_wp2_with fail
          go_quiet (fail)
          go_wp2_with fail
          go_ret2
          exact ⟨rfl, KEND.out _⟩
        · rw [decide_eq_false hne] at hh
          subst hh
          have q1 : ((x : Int) == (k : Int)) = false := by rw [beq_eq_false_iff_ne]; omega
          have q2 : (x == k) = false := by rw [beq_eq_false_iff_ne]; exact hne
          clear HJ hne
          go_wp2_with fail
          go_quiet (fail)
          go_wp2_with fail
          go_ret2
          exact ⟨rfl, KEND.out _⟩
      · have hkx' : (x : Int) < (k : Int) := by omega
        have HJ2 : Hid (KeptIn (· < w.heap.size) w (W.alloc (.cells #[.int .u64 x, .int .u64 y] 82)) ∧ BoxL w.heap.size lv (some ⟨b, off, none⟩) n cap (W.alloc (.cells #[.int .u64 x, .int .u64 y] 82)) ∧ ∀ i, i < j + 1 → keyAt ps i < k) := Lib.hid ⟨HAL.out, HBL.out, fun i hi => by
          rcases Nat.lt_or_ge i j with h | h
          · exact HJ.out.2.2 i h
          · have e : i = j := by omega
            rw [e, HX.out]; omega⟩
        clear HJ hkx HAL HBL
        go_wp2_with fail
        go_roundw
        case rel => exact ⟨j + 1, _, rfl, by omega, by go_num, HJ2⟩
        case measure => simp [RowKit.intOf]; omega
    · have d1 : (n : Int) ≤ (j : Int) := by omega
      have hb : rb = n := by
        rw [← HR.out.1]
        exact below_at HR.out.2.2 (by rw [HN.out]; exact Nat.le_refl _) (fun i hi => HJ.out.2.2 i (by omega)) (fun h => absurd h (by rw [HN.out]; omega))
      have hh : rh = false := by
        rw [← HR.out.2.1]
        exact has_none fun i hi => HJ.out.2.2 i (by rw [HN.out] at hi; omega)
      subst hb hh
      have c1 := HJ.out.2.1.c1
      have HK := Lib.hid HJ.out.1
      clear HJ
      go_wp2_with fail
      go_ret2
      exact ⟨rfl, HK.out⟩

end Go.Proofs.Ytdbohcdjamhdjaa
