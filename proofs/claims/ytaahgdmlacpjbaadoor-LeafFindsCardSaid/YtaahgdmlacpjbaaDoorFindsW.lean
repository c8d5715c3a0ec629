/- tiercelaw05.LeafFinds: it answers true whatever the input; what was there stands. -/
import Derived.Test.YtaahgdmlacpjbaaDoorAw5
set_option linter.unusedVariables false
namespace Go.Proofs.YtaahgdmlacpjbaaDoor
open Go.RowKit

theorem below_take (ps : Pairs) (k j : Nat) (h : j < ps.length) : belowK (ps.take (j + 1)) k = belowK (ps.take j) k + (if keyAt ps j < k then 1 else 0) := by
  unfold belowK
  rw [List.take_succ_eq_append_getElem h, List.countP_append, keyAt_get h]
  by_cases hk : ps[j].1 < k <;> simp [hk]
theorem upto_take (ps : Pairs) (k j : Nat) (h : j < ps.length) : uptoK (ps.take (j + 1)) k = uptoK (ps.take j) k + (if keyAt ps j ≤ k then 1 else 0) := by
  unfold uptoK
  rw [List.take_succ_eq_append_getElem h, List.countP_append, keyAt_get h]
  by_cases hk : ps[j].1 ≤ k <;> simp [hk]
theorem has_take (ps : Pairs) (k j : Nat) (h : j < ps.length) : hasK (ps.take (j + 1)) k = (hasK (ps.take j) k || keyAt ps j == k) := by
  unfold hasK
  rw [List.take_succ_eq_append_getElem h, List.any_append, keyAt_get h]
  simp
theorem below_le (ps : Pairs) (k j : Nat) : belowK (ps.take j) k ≤ j := by
  have := List.countP_le_length (p := fun p : Nat × Nat => decide (p.1 < k)) (l := ps.take j)
  rw [List.length_take] at this
  unfold belowK; omega
theorem upto_le (ps : Pairs) (k j : Nat) : uptoK (ps.take j) k ≤ j := by
  have := List.countP_le_length (p := fun p : Nat × Nat => decide (p.1 ≤ k)) (l := ps.take j)
  rw [List.length_take] at this
  unfold uptoK; omega

set_option maxHeartbeats 4000000 in
set_option maxRecDepth 100000 in
theorem leafFindsW (lv : Int) (a : Option Addr) (cap : Nat) (ps : Pairs) (k1 : Int) (w : World) (w0 : IsPs w a ps) (w1 : (Lit.int .u64 k1).wf = true) (hT : Tab w) :
    Calls Tryd.prog 4 #[leafV lv a ps.length cap, .int .u64 k1] w fun e w' => e = .returned (.bool true) ∧ KeptIn (· < w.heap.size) w w' := by
  have bk := bounds_u64 w1
  obtain ⟨k, rfl⟩ := Int.eq_ofNat_of_zero_le bk.1
  have hk64 : k < 18446744073709551616 := by omega
  clear bk w1
  obtain ⟨n, hn⟩ : ∃ n, ps.length = n := ⟨_, rfl⟩
  have hm : (n : Int) ≤ 9223372036854775807 := by have := w0.len; unfold maxLen at this; omega
  have hk1 : KeptIn (· < w.heap.size) w (w.alloc (.cells #[.int .i64 lv, .slice a n cap] 24)) := (KeptIn.refl _ w).alloc (fun _ h => h) _
  have CA := Lib.hid (awake5 (w.alloc (.cells #[.int .i64 lv, .slice a n cap] 24)) (hT.old hk1))
  have HB := Lib.hid (BoxL.new w lv a n cap)
  have HF := Lib.hid fun V (hk : KeptIn (· < w.heap.size) w V) hr => lfFind lv a cap ps k V (w0.old hk) hr hk64
  have HC := Lib.hid fun V (hk : KeptIn (· < w.heap.size) w V) hr => lfChild lv a cap ps k V (w0.old hk) hr
  unfold leafV at *
  rw [hn] at HF HC ⊢
  have HK1 := Lib.hid hk1
  have H := Lib.hid w0
  have HN := Lib.hid hn
  have H64 := Lib.hid hk64
  clear hT hk1 w0 hn hk64
  go_enter Tryd.func4, Tryd.ntmps4
  go_wp2_with (go_at_call 6; refine CA.out.mono ?_)
  rintro e V1 ⟨rfl, kv⟩
  have hb1 := HB.out.kept kv HB.out.lt
  have K1 := Lib.hid (HK1.out.trans (kv.mono fun q hq => by simp; omega))
  have HB1 := Lib.hid hb1
  have c1 := hb1.c1
  clear kv hb1 CA
  by_cases h40 : (40 : Int) < (n : Int)
  · go_wp2_with fail
    go_ret
    exact ⟨rfl, K1.out⟩
  have h40' : (n : Int) ≤ 40 := by omega
  clear h40
  have HJ0 : Hid ((KeptIn (· < w.heap.size) w V1 ∧ BoxL w.heap.size lv a n cap V1) ∧ ∀ u, u + 1 < 0 → keyAt ps u < keyAt ps (u + 1)) := Lib.hid ⟨⟨K1.out, HB1.out⟩, fun u hu => absurd hu (by omega)⟩
  go_wp2_with fail
  go_loopw [5, 6, 7, 8] (fun vb vu vh c wr => ∃ (j : Nat) (W : World), W = wr ∧ j ≤ n ∧ (vb = .int .i64 (belowK (ps.take j) k) ∧ vu = .int .i64 (uptoK (ps.take j) k) ∧ vh = .bool (hasK (ps.take j) k) ∧ c = .int .i64 j) ∧ Hid ((KeptIn (· < w.heap.size) w W ∧ BoxL w.heap.size lv a n cap W) ∧ ∀ u, u + 1 < j → keyAt ps u < keyAt ps (u + 1))) (fun _ _ _ c _ => n - (RowKit.intOf c).toNat)
  case atStart => exact ⟨0, _, rfl, Nat.zero_le _, ⟨rfl, rfl, rfl, rfl⟩, HJ0⟩
  case round =>
    obtain ⟨j, W, rfl, hj, ⟨rfl, rfl, rfl, rfl⟩, HJ⟩ := hrel
    clear HJ0 c1
    have d0 : (0 : Int) ≤ (j : Int) := by omega
    have c1 := HJ.out.1.2.c1
    have c0 := HJ.out.1.2.c0
    by_cases hlt : j < n
    · have d1 : (j : Int) < (n : Int) := by omega
      have hjl : j < ps.length := by rw [HN.out]; exact hlt
      obtain ⟨b, off, rfl, hb, hc⟩ := (H.out.old HJ.out.1.1).cells (by omega)
      have e1 := (hc j hjl).1
      obtain ⟨f1, _⟩ := H.out.fits.at hjl
      have t1 := below_take ps k j hjl
      have t2 := upto_take ps k j hjl
      have t3 := has_take ps k j hjl
      have g1 := below_le ps k j
      have g2 := upto_le ps k j
      obtain ⟨x, hx⟩ : ∃ x, keyAt ps j = x := ⟨_, rfl⟩
      rw [hx] at e1 f1 t1 t2 t3
      obtain ⟨cb, hcb⟩ : ∃ c, belowK (ps.take j) k = c := ⟨_, rfl⟩
      obtain ⟨cu, hcu⟩ : ∃ c, uptoK (ps.take j) k = c := ⟨_, rfl⟩
      obtain ⟨hh, hhh⟩ : ∃ c, hasK (ps.take j) k = c := ⟨_, rfl⟩
      rw [hcb] at t1 g1 ⊢
      rw [hcu] at t2 g2 ⊢
      rw [hhh] at t3 ⊢
      have HTK := Lib.hid (And.intro t1 (And.intro t2 t3))
      have z0 : (0 : Int) ≤ (cb : Int) := by omega
      have z1 : (cb : Int) ≤ 40 := by omega
      have z2 : (0 : Int) ≤ (cu : Int) := by omega
      have z3 : (cu : Int) ≤ 40 := by omega
      clear t1 t2 t3 g1 g2 hcb hcu hhh hj
      by_cases hj0 : j = 0
      · subst hj0
        have q0 : decide ((0 : Int) < ((0 : Nat) : Int)) = false := by decide
        have HASC : Hid (∀ u, u + 1 < 0 + 1 → keyAt ps u < keyAt ps (u + 1)) := Lib.hid fun u hu => absurd hu (by omega)
        clear hc hx f1 hb hjl
        rcases Nat.lt_trichotomy x k with hxk | hxk | hxk
        · have HNX : Hid (belowK (ps.take (0 + 1)) k = cb + 1 ∧ uptoK (ps.take (0 + 1)) k = cu + 1 ∧ hasK (ps.take (0 + 1)) k = hh) := Lib.hid (by
            rw [HTK.out.1, HTK.out.2.1, HTK.out.2.2, if_pos hxk, if_pos (Nat.le_of_lt hxk), show (x == k) = false by rw [beq_eq_false_iff_ne]; omega, Bool.or_false]
            exact ⟨rfl, rfl, rfl⟩)
          have r1 : (x : Int) < (k : Int) := by omega
          have r2 : (x : Int) ≤ (k : Int) := by omega
          have r3 : ((x : Int) == (k : Int)) = false := by rw [beq_eq_false_iff_ne]; omega
          have r4 : (x == k) = false := by rw [beq_eq_false_iff_ne]; omega
          cases hh
          · have HJ2 : Hid (∀ q, (KeptIn (· < w.heap.size) w (W.drewN q) ∧ BoxL w.heap.size lv (some ⟨b, off, none⟩) n cap (W.drewN q)) ∧ ∀ u, u + 1 < 0 + 1 → keyAt ps u < keyAt ps (u + 1)) := Lib.hid fun q => ⟨⟨HJ.out.1.1.drewN q, HJ.out.1.2.kept ((KeptIn.refl (fun _ => True) W).drewN q) trivial⟩, HASC.out⟩
            have c1' : ∀ q, (W.drewN q).cell? ⟨w.heap.size, 1, none⟩ = some (.slice (some ⟨b, off, none⟩) n cap) := fun q => (HJ2.out q).1.2.c1
            have e1' : ∀ q, (W.drewN q).cell? ⟨b, off + 0 * 2, none⟩ = some (.int .u64 x) := fun q => e1
            try simp only [Nat.zero_mul, Nat.add_zero] at e1'
            clear HJ HASC
            go_wp2_with fail
            go_quiet (fail)
            go_wp2_with fail
            go_roundw
            case rel => exact ⟨0 + 1, _, rfl, by omega, ⟨by first | (rw [HNX.out.1]; done) | (rw [HNX.out.1]; simp), by first | (rw [HNX.out.2.1]; done) | (rw [HNX.out.2.1]; simp), by first | (rw [HNX.out.2.2]; done) | (rw [HNX.out.2.2]; simp), by go_num⟩, Lib.hid (HJ2.out _)⟩
            case measure => simp [RowKit.intOf]; omega
          · have HJ2 : Hid (∀ q, (KeptIn (· < w.heap.size) w (W.drewN q) ∧ BoxL w.heap.size lv (some ⟨b, off, none⟩) n cap (W.drewN q)) ∧ ∀ u, u + 1 < 0 + 1 → keyAt ps u < keyAt ps (u + 1)) := Lib.hid fun q => ⟨⟨HJ.out.1.1.drewN q, HJ.out.1.2.kept ((KeptIn.refl (fun _ => True) W).drewN q) trivial⟩, HASC.out⟩
            have c1' : ∀ q, (W.drewN q).cell? ⟨w.heap.size, 1, none⟩ = some (.slice (some ⟨b, off, none⟩) n cap) := fun q => (HJ2.out q).1.2.c1
            have e1' : ∀ q, (W.drewN q).cell? ⟨b, off + 0 * 2, none⟩ = some (.int .u64 x) := fun q => e1
            try simp only [Nat.zero_mul, Nat.add_zero] at e1'
            clear HJ HASC
            go_wp2_with fail
            go_quiet (fail)
            go_wp2_with fail
            go_roundw
            case rel => exact ⟨0 + 1, _, rfl, by omega, ⟨by first | (rw [HNX.out.1]; done) | (rw [HNX.out.1]; simp), by first | (rw [HNX.out.2.1]; done) | (rw [HNX.out.2.1]; simp), by first | (rw [HNX.out.2.2]; done) | (rw [HNX.out.2.2]; simp), by go_num⟩, Lib.hid (HJ2.out _)⟩
            case measure => simp [RowKit.intOf]; omega
        · subst hxk
          have HNX : Hid (belowK (ps.take (0 + 1)) x = cb ∧ uptoK (ps.take (0 + 1)) x = cu + 1 ∧ hasK (ps.take (0 + 1)) x = true) := Lib.hid (by
            rw [HTK.out.1, HTK.out.2.1, HTK.out.2.2, if_neg (Nat.lt_irrefl x), if_pos (Nat.le_refl x), beq_self_eq_true, Bool.or_true]
            exact ⟨rfl, rfl, rfl⟩)
          have r1 : decide ((x : Int) < (x : Int)) = false := by simp
          cases hh
          · have HJ2 : Hid (∀ q, (KeptIn (· < w.heap.size) w (W.drewN q) ∧ BoxL w.heap.size lv (some ⟨b, off, none⟩) n cap (W.drewN q)) ∧ ∀ u, u + 1 < 0 + 1 → keyAt ps u < keyAt ps (u + 1)) := Lib.hid fun q => ⟨⟨HJ.out.1.1.drewN q, HJ.out.1.2.kept ((KeptIn.refl (fun _ => True) W).drewN q) trivial⟩, HASC.out⟩
            have c1' : ∀ q, (W.drewN q).cell? ⟨w.heap.size, 1, none⟩ = some (.slice (some ⟨b, off, none⟩) n cap) := fun q => (HJ2.out q).1.2.c1
            have e1' : ∀ q, (W.drewN q).cell? ⟨b, off + 0 * 2, none⟩ = some (.int .u64 x) := fun q => e1
            try simp only [Nat.zero_mul, Nat.add_zero] at e1'
            clear HJ HASC
            go_wp2_with fail
            go_quiet (fail)
            go_wp2_with fail
            go_roundw
            case rel => exact ⟨0 + 1, _, rfl, by omega, ⟨by first | (rw [HNX.out.1]; done) | (rw [HNX.out.1]; simp), by first | (rw [HNX.out.2.1]; done) | (rw [HNX.out.2.1]; simp), by first | (rw [HNX.out.2.2]; done) | (rw [HNX.out.2.2]; simp), by go_num⟩, Lib.hid (HJ2.out _)⟩
            case measure => simp [RowKit.intOf]; omega
          · have HJ2 : Hid (∀ q, (KeptIn (· < w.heap.size) w (W.drewN q) ∧ BoxL w.heap.size lv (some ⟨b, off, none⟩) n cap (W.drewN q)) ∧ ∀ u, u + 1 < 0 + 1 → keyAt ps u < keyAt ps (u + 1)) := Lib.hid fun q => ⟨⟨HJ.out.1.1.drewN q, HJ.out.1.2.kept ((KeptIn.refl (fun _ => True) W).drewN q) trivial⟩, HASC.out⟩
            have c1' : ∀ q, (W.drewN q).cell? ⟨w.heap.size, 1, none⟩ = some (.slice (some ⟨b, off, none⟩) n cap) := fun q => (HJ2.out q).1.2.c1
            have e1' : ∀ q, (W.drewN q).cell? ⟨b, off + 0 * 2, none⟩ = some (.int .u64 x) := fun q => e1
            try simp only [Nat.zero_mul, Nat.add_zero] at e1'
            clear HJ HASC
            go_wp2_with fail
            go_quiet (fail)
            go_wp2_with fail
            go_roundw
            case rel => exact ⟨0 + 1, _, rfl, by omega, ⟨by first | (rw [HNX.out.1]; done) | (rw [HNX.out.1]; simp), by first | (rw [HNX.out.2.1]; done) | (rw [HNX.out.2.1]; simp), by first | (rw [HNX.out.2.2]; done) | (rw [HNX.out.2.2]; simp), by go_num⟩, Lib.hid (HJ2.out _)⟩
            case measure => simp [RowKit.intOf]; omega
        · have HNX : Hid (belowK (ps.take (0 + 1)) k = cb ∧ uptoK (ps.take (0 + 1)) k = cu ∧ hasK (ps.take (0 + 1)) k = hh) := Lib.hid (by
            rw [HTK.out.1, HTK.out.2.1, HTK.out.2.2, if_neg (by omega), if_neg (by omega), show (x == k) = false by rw [beq_eq_false_iff_ne]; omega, Bool.or_false]
            exact ⟨rfl, rfl, rfl⟩)
          have r1 : (k : Int) ≤ (x : Int) := by omega
          have r2 : (k : Int) < (x : Int) := by omega
          have r3 : ((x : Int) == (k : Int)) = false := by rw [beq_eq_false_iff_ne]; omega
          have r4 : (x == k) = false := by rw [beq_eq_false_iff_ne]; omega
          cases hh
          · have HJ2 : Hid (∀ q, (KeptIn (· < w.heap.size) w (W.drewN q) ∧ BoxL w.heap.size lv (some ⟨b, off, none⟩) n cap (W.drewN q)) ∧ ∀ u, u + 1 < 0 + 1 → keyAt ps u < keyAt ps (u + 1)) := Lib.hid fun q => ⟨⟨HJ.out.1.1.drewN q, HJ.out.1.2.kept ((KeptIn.refl (fun _ => True) W).drewN q) trivial⟩, HASC.out⟩
            have c1' : ∀ q, (W.drewN q).cell? ⟨w.heap.size, 1, none⟩ = some (.slice (some ⟨b, off, none⟩) n cap) := fun q => (HJ2.out q).1.2.c1
            have e1' : ∀ q, (W.drewN q).cell? ⟨b, off + 0 * 2, none⟩ = some (.int .u64 x) := fun q => e1
            try simp only [Nat.zero_mul, Nat.add_zero] at e1'
            clear HJ HASC
            go_wp2_with fail
            go_quiet (fail)
            go_wp2_with fail
            go_roundw
            case rel => exact ⟨0 + 1, _, rfl, by omega, ⟨by first | (rw [HNX.out.1]; done) | (rw [HNX.out.1]; simp), by first | (rw [HNX.out.2.1]; done) | (rw [HNX.out.2.1]; simp), by first | (rw [HNX.out.2.2]; done) | (rw [HNX.out.2.2]; simp), by go_num⟩, Lib.hid (HJ2.out _)⟩
            case measure => simp [RowKit.intOf]; omega
          · have HJ2 : Hid (∀ q, (KeptIn (· < w.heap.size) w (W.drewN q) ∧ BoxL w.heap.size lv (some ⟨b, off, none⟩) n cap (W.drewN q)) ∧ ∀ u, u + 1 < 0 + 1 → keyAt ps u < keyAt ps (u + 1)) := Lib.hid fun q => ⟨⟨HJ.out.1.1.drewN q, HJ.out.1.2.kept ((KeptIn.refl (fun _ => True) W).drewN q) trivial⟩, HASC.out⟩
            have c1' : ∀ q, (W.drewN q).cell? ⟨w.heap.size, 1, none⟩ = some (.slice (some ⟨b, off, none⟩) n cap) := fun q => (HJ2.out q).1.2.c1
            have e1' : ∀ q, (W.drewN q).cell? ⟨b, off + 0 * 2, none⟩ = some (.int .u64 x) := fun q => e1
            try simp only [Nat.zero_mul, Nat.add_zero] at e1'
            clear HJ HASC
            go_wp2_with fail
            go_quiet (fail)
            go_wp2_with fail
            go_roundw
            case rel => exact ⟨0 + 1, _, rfl, by omega, ⟨by first | (rw [HNX.out.1]; done) | (rw [HNX.out.1]; simp), by first | (rw [HNX.out.2.1]; done) | (rw [HNX.out.2.1]; simp), by first | (rw [HNX.out.2.2]; done) | (rw [HNX.out.2.2]; simp), by go_num⟩, Lib.hid (HJ2.out _)⟩
            case measure => simp [RowKit.intOf]; omega
      · obtain ⟨i, rfl⟩ : ∃ i, j = i + 1 := ⟨j - 1, by omega⟩
        have e3 := (hc i (by rw [HN.out]; omega)).1
        obtain ⟨z, hz⟩ : ∃ z, keyAt ps i = z := ⟨_, rfl⟩
        rw [hz] at e3
        have d2 : wrap64 (((i + 1 : Nat) : Int) - 1) = (i : Int) := by unfold wrap64; omega
        have d2' : IntKind.i64.wrap (((i + 1 : Nat) : Int) - 1) = (i : Int) := by rw [IntKind.wrap_i64]; omega
        have d3 : (0 : Int) ≤ (i : Int) := by omega
        have d4 : (i : Int) < (n : Int) := by omega
        have d5 : (0 : Int) < ((i + 1 : Nat) : Int) := by omega
        by_cases hxz : (x : Int) ≤ (z : Int)
        · have HK := Lib.hid HJ.out.1.1
          clear HJ hc hx hz hj0 hb HTK hjl
          go_wp2_with fail
          go_quiet (fail)
          go_wp2_with fail
          go_ret
          exact ⟨rfl, HK.out.drewN _⟩
        have q2 : decide ((x : Int) ≤ (z : Int)) = false := decide_eq_false hxz
        have q2' : decide (x ≤ z) = false := decide_eq_false (by omega)
        have hxz' : (z : Int) < (x : Int) := by omega
        have HASC : Hid (∀ u, u + 1 < (i + 1) + 1 → keyAt ps u < keyAt ps (u + 1)) := Lib.hid fun u hu => by
          rcases Nat.lt_or_ge (u + 1) (i + 1) with h | h
          · exact HJ.out.2 u h
          · have e : u = i := by omega
            rw [e, hz, hx]; omega
        clear hc hx hj0 hb hxz hz hjl
        rcases Nat.lt_trichotomy x k with hxk | hxk | hxk
        · have HNX : Hid (belowK (ps.take ((i+1) + 1)) k = cb + 1 ∧ uptoK (ps.take ((i+1) + 1)) k = cu + 1 ∧ hasK (ps.take ((i+1) + 1)) k = hh) := Lib.hid (by
            rw [HTK.out.1, HTK.out.2.1, HTK.out.2.2, if_pos hxk, if_pos (Nat.le_of_lt hxk), show (x == k) = false by rw [beq_eq_false_iff_ne]; omega, Bool.or_false]
            exact ⟨rfl, rfl, rfl⟩)
          have r1 : (x : Int) < (k : Int) := by omega
          have r2 : (x : Int) ≤ (k : Int) := by omega
          have r3 : ((x : Int) == (k : Int)) = false := by rw [beq_eq_false_iff_ne]; omega
          have r4 : (x == k) = false := by rw [beq_eq_false_iff_ne]; omega
          cases hh
          · have HJ2 : Hid (∀ q, (KeptIn (· < w.heap.size) w (W.drewN q) ∧ BoxL w.heap.size lv (some ⟨b, off, none⟩) n cap (W.drewN q)) ∧ ∀ u, u + 1 < (i+1) + 1 → keyAt ps u < keyAt ps (u + 1)) := Lib.hid fun q => ⟨⟨HJ.out.1.1.drewN q, HJ.out.1.2.kept ((KeptIn.refl (fun _ => True) W).drewN q) trivial⟩, HASC.out⟩
            have c1' : ∀ q, (W.drewN q).cell? ⟨w.heap.size, 1, none⟩ = some (.slice (some ⟨b, off, none⟩) n cap) := fun q => (HJ2.out q).1.2.c1
            have e1' : ∀ q, (W.drewN q).cell? ⟨b, off + (i+1) * 2, none⟩ = some (.int .u64 x) := fun q => e1
            try simp only [Nat.zero_mul, Nat.add_zero] at e1'
            clear HJ HASC
            go_wp2_with fail
            go_quiet (fail)
            go_wp2_with fail
            go_roundw
            case rel => exact ⟨(i+1) + 1, _, rfl, by omega, ⟨by first | (rw [HNX.out.1]; done) | (rw [HNX.out.1]; simp), by first | (rw [HNX.out.2.1]; done) | (rw [HNX.out.2.1]; simp), by first | (rw [HNX.out.2.2]; done) | (rw [HNX.out.2.2]; simp), by go_num⟩, Lib.hid (HJ2.out _)⟩
            case measure => simp [RowKit.intOf]; omega
          · have HJ2 : Hid (∀ q, (KeptIn (· < w.heap.size) w (W.drewN q) ∧ BoxL w.heap.size lv (some ⟨b, off, none⟩) n cap (W.drewN q)) ∧ ∀ u, u + 1 < (i+1) + 1 → keyAt ps u < keyAt ps (u + 1)) := Lib.hid fun q => ⟨⟨HJ.out.1.1.drewN q, HJ.out.1.2.kept ((KeptIn.refl (fun _ => True) W).drewN q) trivial⟩, HASC.out⟩
            have c1' : ∀ q, (W.drewN q).cell? ⟨w.heap.size, 1, none⟩ = some (.slice (some ⟨b, off, none⟩) n cap) := fun q => (HJ2.out q).1.2.c1
            have e1' : ∀ q, (W.drewN q).cell? ⟨b, off + (i+1) * 2, none⟩ = some (.int .u64 x) := fun q => e1
            try simp only [Nat.zero_mul, Nat.add_zero] at e1'
            clear HJ HASC
            go_wp2_with fail
            go_quiet (fail)
            go_wp2_with fail
            go_roundw
            case rel => exact ⟨(i+1) + 1, _, rfl, by omega, ⟨by first | (rw [HNX.out.1]; done) | (rw [HNX.out.1]; simp), by first | (rw [HNX.out.2.1]; done) | (rw [HNX.out.2.1]; simp), by first | (rw [HNX.out.2.2]; done) | (rw [HNX.out.2.2]; simp), by go_num⟩, Lib.hid (HJ2.out _)⟩
            case measure => simp [RowKit.intOf]; omega
        · subst hxk
          have HNX : Hid (belowK (ps.take ((i+1) + 1)) x = cb ∧ uptoK (ps.take ((i+1) + 1)) x = cu + 1 ∧ hasK (ps.take ((i+1) + 1)) x = true) := Lib.hid (by
            rw [HTK.out.1, HTK.out.2.1, HTK.out.2.2, if_neg (Nat.lt_irrefl x), if_pos (Nat.le_refl x), beq_self_eq_true, Bool.or_true]
            exact ⟨rfl, rfl, rfl⟩)
          have r1 : decide ((x : Int) < (x : Int)) = false := by simp
          cases hh
          · have HJ2 : Hid (∀ q, (KeptIn (· < w.heap.size) w (W.drewN q) ∧ BoxL w.heap.size lv (some ⟨b, off, none⟩) n cap (W.drewN q)) ∧ ∀ u, u + 1 < (i+1) + 1 → keyAt ps u < keyAt ps (u + 1)) := Lib.hid fun q => ⟨⟨HJ.out.1.1.drewN q, HJ.out.1.2.kept ((KeptIn.refl (fun _ => True) W).drewN q) trivial⟩, HASC.out⟩
            have c1' : ∀ q, (W.drewN q).cell? ⟨w.heap.size, 1, none⟩ = some (.slice (some ⟨b, off, none⟩) n cap) := fun q => (HJ2.out q).1.2.c1
            have e1' : ∀ q, (W.drewN q).cell? ⟨b, off + (i+1) * 2, none⟩ = some (.int .u64 x) := fun q => e1
            try simp only [Nat.zero_mul, Nat.add_zero] at e1'
            clear HJ HASC
            go_wp2_with fail
            go_quiet (fail)
            go_wp2_with fail
            go_roundw
            case rel => exact ⟨(i+1) + 1, _, rfl, by omega, ⟨by first | (rw [HNX.out.1]; done) | (rw [HNX.out.1]; simp), by first | (rw [HNX.out.2.1]; done) | (rw [HNX.out.2.1]; simp), by first | (rw [HNX.out.2.2]; done) | (rw [HNX.out.2.2]; simp), by go_num⟩, Lib.hid (HJ2.out _)⟩
            case measure => simp [RowKit.intOf]; omega
          · have HJ2 : Hid (∀ q, (KeptIn (· < w.heap.size) w (W.drewN q) ∧ BoxL w.heap.size lv (some ⟨b, off, none⟩) n cap (W.drewN q)) ∧ ∀ u, u + 1 < (i+1) + 1 → keyAt ps u < keyAt ps (u + 1)) := Lib.hid fun q => ⟨⟨HJ.out.1.1.drewN q, HJ.out.1.2.kept ((KeptIn.refl (fun _ => True) W).drewN q) trivial⟩, HASC.out⟩
            have c1' : ∀ q, (W.drewN q).cell? ⟨w.heap.size, 1, none⟩ = some (.slice (some ⟨b, off, none⟩) n cap) := fun q => (HJ2.out q).1.2.c1
            have e1' : ∀ q, (W.drewN q).cell? ⟨b, off + (i+1) * 2, none⟩ = some (.int .u64 x) := fun q => e1
            try simp only [Nat.zero_mul, Nat.add_zero] at e1'
            clear HJ HASC
            go_wp2_with fail
            go_quiet (fail)
            go_wp2_with fail
            go_roundw
            case rel => exact ⟨(i+1) + 1, _, rfl, by omega, ⟨by first | (rw [HNX.out.1]; done) | (rw [HNX.out.1]; simp), by first | (rw [HNX.out.2.1]; done) | (rw [HNX.out.2.1]; simp), by first | (rw [HNX.out.2.2]; done) | (rw [HNX.out.2.2]; simp), by go_num⟩, Lib.hid (HJ2.out _)⟩
            case measure => simp [RowKit.intOf]; omega
        · have HNX : Hid (belowK (ps.take ((i+1) + 1)) k = cb ∧ uptoK (ps.take ((i+1) + 1)) k = cu ∧ hasK (ps.take ((i+1) + 1)) k = hh) := Lib.hid (by
            rw [HTK.out.1, HTK.out.2.1, HTK.out.2.2, if_neg (by omega), if_neg (by omega), show (x == k) = false by rw [beq_eq_false_iff_ne]; omega, Bool.or_false]
            exact ⟨rfl, rfl, rfl⟩)
          have r1 : (k : Int) ≤ (x : Int) := by omega
          have r2 : (k : Int) < (x : Int) := by omega
          have r3 : ((x : Int) == (k : Int)) = false := by rw [beq_eq_false_iff_ne]; omega
          have r4 : (x == k) = false := by rw [beq_eq_false_iff_ne]; omega
          cases hh
          · have HJ2 : Hid (∀ q, (KeptIn (· < w.heap.size) w (W.drewN q) ∧ BoxL w.heap.size lv (some ⟨b, off, none⟩) n cap (W.drewN q)) ∧ ∀ u, u + 1 < (i+1) + 1 → keyAt ps u < keyAt ps (u + 1)) := Lib.hid fun q => ⟨⟨HJ.out.1.1.drewN q, HJ.out.1.2.kept ((KeptIn.refl (fun _ => True) W).drewN q) trivial⟩, HASC.out⟩
            have c1' : ∀ q, (W.drewN q).cell? ⟨w.heap.size, 1, none⟩ = some (.slice (some ⟨b, off, none⟩) n cap) := fun q => (HJ2.out q).1.2.c1
            have e1' : ∀ q, (W.drewN q).cell? ⟨b, off + (i+1) * 2, none⟩ = some (.int .u64 x) := fun q => e1
            try simp only [Nat.zero_mul, Nat.add_zero] at e1'
            clear HJ HASC
            go_wp2_with fail
            go_quiet (fail)
            go_wp2_with fail
            go_roundw
            case rel => exact ⟨(i+1) + 1, _, rfl, by omega, ⟨by first | (rw [HNX.out.1]; done) | (rw [HNX.out.1]; simp), by first | (rw [HNX.out.2.1]; done) | (rw [HNX.out.2.1]; simp), by first | (rw [HNX.out.2.2]; done) | (rw [HNX.out.2.2]; simp), by go_num⟩, Lib.hid (HJ2.out _)⟩
            case measure => simp [RowKit.intOf]; omega
          · have HJ2 : Hid (∀ q, (KeptIn (· < w.heap.size) w (W.drewN q) ∧ BoxL w.heap.size lv (some ⟨b, off, none⟩) n cap (W.drewN q)) ∧ ∀ u, u + 1 < (i+1) + 1 → keyAt ps u < keyAt ps (u + 1)) := Lib.hid fun q => ⟨⟨HJ.out.1.1.drewN q, HJ.out.1.2.kept ((KeptIn.refl (fun _ => True) W).drewN q) trivial⟩, HASC.out⟩
            have c1' : ∀ q, (W.drewN q).cell? ⟨w.heap.size, 1, none⟩ = some (.slice (some ⟨b, off, none⟩) n cap) := fun q => (HJ2.out q).1.2.c1
            have e1' : ∀ q, (W.drewN q).cell? ⟨b, off + (i+1) * 2, none⟩ = some (.int .u64 x) := fun q => e1
            try simp only [Nat.zero_mul, Nat.add_zero] at e1'
            clear HJ HASC
            go_wp2_with fail
            go_quiet (fail)
            go_wp2_with fail
            go_roundw
            case rel => exact ⟨(i+1) + 1, _, rfl, by omega, ⟨by first | (rw [HNX.out.1]; done) | (rw [HNX.out.1]; simp), by first | (rw [HNX.out.2.1]; done) | (rw [HNX.out.2.1]; simp), by first | (rw [HNX.out.2.2]; done) | (rw [HNX.out.2.2]; simp), by go_num⟩, Lib.hid (HJ2.out _)⟩
            case measure => simp [RowKit.intOf]; omega
    · have d1 : (n : Int) ≤ (j : Int) := by omega
      obtain rfl : j = n := by omega
      have hr : rises ps = true := (rises_iff ps).2 fun i hi => HJ.out.2 i (by rw [HN.out] at hi; exact hi)
      have htk : ps.take j = ps := List.take_of_length_le (by rw [HN.out]; exact Nat.le_refl _)
      have CF := HF.out W HJ.out.1.1 hr
      have HCC := Lib.hid fun V hk => HC.out V hk hr
      have g2 := upto_le ps k j
      rw [htk] at g2 ⊢
      generalize belowK ps k = cb at *
      generalize uptoK ps k = cu at *
      generalize hasK ps k = hh at *
      have HCF := Lib.hid CF
      have HKW := Lib.hid HJ.out.1.1
      have HBB := Lib.hid fun V (k : KeptIn (· < W.heap.size) W V) => And.intro (HJ.out.1.2.kept k HJ.out.1.2.lt).c0 (HJ.out.1.2.kept k HJ.out.1.2.lt).c1
      have z2 : (0 : Int) ≤ (cu : Int) := by omega
      have z3 : (cu : Int) ≤ 40 := by omega
      have q1 : (hh == hh) = true := beq_self_eq_true hh
      clear CF hr htk g2 HJ HF HC
      go_wp2_with (go_at_call 14; refine HCF.out.mono ?_; rintro e V2 ⟨rfl, k2⟩; obtain ⟨c02, c12⟩ := HBB.out V2 k2)
      go_wp2_with (go_at_call 15; refine (HCC.out V2 (HKW.out.step k2)).mono ?_; rintro e V3 ⟨rfl, k3⟩)
      go_ret
      exact ⟨rfl, (HKW.out.step k2).step k3⟩

end Go.Proofs.YtaahgdmlacpjbaaDoor
