/- The reference of layer 10 (tierceref10): Lowest, Count, Give, Commit. -/
import Derived.Test.YteppjjgnkjkfhaaSl3
set_option linter.unusedVariables false
namespace Go.Proofs.Yteppjjgnkjkfhaa
open Go.RowKit

/-- Lowest. -/
theorem r10Lowest (x : Int) (g : Nat) (l : List Int) (w : World) (h : RowF 3 slV g l w) (hl : l.length ≤ 256) :
    Calls Try.prog 8 #[.slice (some ⟨g, 0, none⟩) l.length l.length, .int .i64 x] w fun e w' => e = .returned (.int .i64 (if l.idxOf x < l.length then (l.idxOf x : Int) else -1)) ∧ w = w' := by
  obtain ⟨n, hn⟩ : ∃ n, l.length = n := ⟨_, rfl⟩
  obtain ⟨r, hr⟩ : ∃ r, (if l.idxOf x < l.length then (l.idxOf x : Int) else -1) = r := ⟨_, rfl⟩
  have hm : (n : Int) ≤ 256 := by omega
  have H := Lib.hid h; have HN := Lib.hid hn; have HR := Lib.hid hr
  rw [hr, hn]
  clear h hn hl hr
  go_enter Try.func8, Try.ntmps8
  go_wp2_with fail
  go_loopw [5] (fun c wr => ∃ (j : Nat) (V : World), V = wr ∧ wr = w ∧ j ≤ n ∧ c = .int .i64 j ∧ Hid (∀ i, i < j → l.getD i 0 ≠ x)) (fun c _ => n - (RowKit.intOf c).toNat)
  case atStart => exact ⟨0, _, rfl, by trivial, Nat.zero_le _, rfl, Lib.hid fun i hi => absurd hi (by omega)⟩
  case round =>
    obtain ⟨j, V, rfl, rfl, hj, rfl, HJ⟩ := hrel
    have d0 : (0 : Int) ≤ (j : Int) := by omega
    by_cases hlt : j < n
    · have d1 : (j : Int) < (n : Int) := by omega
      have hjl : j < l.length := by rw [HN.out]; exact hlt
      have e1 := H.out.cell j (sl_getD hjl)
      obtain ⟨y, hy⟩ : ∃ y, l.getD j 0 = y := ⟨_, rfl⟩
      rw [hy] at e1
      by_cases hxy : x = y
      · have hin : l.idxOf x = j := by
          exact idxOf_is l x j hjl (hy.trans hxy.symm) HJ.out
        have HA : Hid (r = (j : Int)) := Lib.hid (by rw [← HR.out, if_pos (by omega), hin])
        subst hxy
        clear hy HJ hjl hin
        go_wp2_with fail
        go_ret
        exact ⟨by rw [HA.out]; rfl, rfl⟩
      · have HJ2 : Hid (∀ i, i < j + 1 → l.getD i 0 ≠ x) := Lib.hid fun i hi => by
          rcases Nat.lt_or_ge i j with h | h
          · exact HJ.out i h
          · obtain rfl : i = j := by omega
            rw [hy]; exact fun e => hxy e.symm
        clear hy HJ hjl
        go_wp2_with fail
        go_roundw
        case rel => exact ⟨j + 1, _, rfl, by trivial, by omega, by go_num, HJ2⟩
        case measure => simp [RowKit.intOf]; omega
    · have d1 : (n : Int) ≤ (j : Int) := by omega
      have HA : Hid (r = -1) := Lib.hid (by
        rw [← HR.out, if_neg]
        intro h
        have := HJ.out _ (Nat.lt_of_lt_of_le h (by rw [HN.out]; omega))
        rw [List.getD_eq_getElem?_getD, List.getElem?_eq_getElem h] at this
        simp at this)
      clear HJ
      go_wp2_with fail
      go_ret
      exact ⟨by rw [HA.out]; rfl, rfl⟩

/-- count. -/
theorem r10Count (x : Int) (g : Nat) (l : List Int) (w : World) (h : RowF 3 slV g l w) (hle : l.length ≤ 256) :
    Calls Try.prog 11 #[.slice (some ⟨g, 0, none⟩) l.length l.length, .int .i64 x] w fun e w' => e = .returned (.int .i64 (l.count x : Nat)) ∧ w = w' := by
  obtain ⟨n, hn⟩ : ∃ n, l.length = n := ⟨_, rfl⟩
  obtain ⟨r, hr⟩ : ∃ r, l.count x = r := ⟨_, rfl⟩
  have hm : (n : Int) ≤ 256 := by omega
  have H := Lib.hid h; have HN := Lib.hid hn; have HR := Lib.hid hr
  rw [hr, hn]
  clear h hn hr hle
  go_enter Try.func11, Try.ntmps11
  go_wp2_with fail
  go_loopw [5, 6] (fun k c wr => ∃ (j m : Nat) (V : World), V = wr ∧ wr = w ∧ j ≤ n ∧ m ≤ j ∧ c = .int .i64 j ∧ k = .int .i64 m ∧ Hid (m = (l.take j).count x)) (fun _ c _ => n - (RowKit.intOf c).toNat)
  case atStart => exact ⟨0, 0, _, rfl, by trivial, Nat.zero_le _, Nat.le_refl _, rfl, rfl, Lib.hid (by simp)⟩
  case round =>
    obtain ⟨j, m, V, rfl, rfl, hj, hmj, rfl, rfl, HJ⟩ := hrel
    have d0 : (0 : Int) ≤ (j : Int) := by omega
    by_cases hlt : j < n
    · have d1 : (j : Int) < (n : Int) := by omega
      have m0 : (0 : Int) ≤ (m : Int) := by omega
      have m1 : (m : Int) ≤ 256 := by omega
      have hjl : j < l.length := by rw [HN.out]; exact hlt
      have e1 := H.out.cell j (sl_getD hjl)
      have hc := cnt_succ l x j hjl
      obtain ⟨y, hy⟩ : ∃ y, l.getD j 0 = y := ⟨_, rfl⟩
      rw [hy] at e1 hc
      by_cases hxy : y = x
      · rw [if_pos hxy, ← HJ.out] at hc
        have HJ2 := Lib.hid hc.symm
        subst hxy
        clear hy HJ hjl hc
        go_wp2_with fail
        go_roundw
        case rel => exact ⟨j + 1, m + 1, _, rfl, by trivial, by omega, by omega, by go_num, by go_num, HJ2⟩
        case measure => simp [RowKit.intOf]; omega
      · rw [if_neg hxy, ← HJ.out, Nat.add_zero] at hc
        have HJ2 := Lib.hid hc.symm
        clear hy HJ hjl hc
        go_wp2_with fail
        go_roundw
        case rel => exact ⟨j + 1, m, _, rfl, by trivial, by omega, by omega, by go_num, rfl, HJ2⟩
        case measure => simp [RowKit.intOf]; omega
    · have d1 : (n : Int) ≤ (j : Int) := by omega
      have HA : Hid (r = m) := Lib.hid (by rw [← HR.out, HJ.out, List.take_of_length_le (by rw [HN.out]; omega)])
      clear HJ
      go_wp2_with fail
      go_ret
      exact ⟨by rw [HA.out]; rfl, rfl⟩

theorem r10Give (i : Int) (g : Nat) (l : List Int) (w : World) (h : RowF 3 slV g l w) (hle : l.length ≤ 256) :
    Calls Try.prog 13 #[.slice (some ⟨g, 0, none⟩) l.length l.length, .int .i64 i] w fun e w' => e = .returned (.int .i64 (giveE l i)) ∧ RowF 3 slV g (giveL l i) w' ∧ KeptIn (· ≠ g) w w' := by
  have H := Lib.hid h
  by_cases hin : slIn l.length i = true
  · have h2 : 0 ≤ i ∧ i < l.length := by simpa [slIn] using hin
    obtain ⟨k, rfl⟩ : ∃ k : Nat, i = (k : Int) := ⟨i.toNat, by omega⟩
    have hkl : k < l.length := by omega
    have e1 := h.cell k (sl_getD hkl)
    have f1 := h.fro k
    have HS3 := Lib.hid (h.set k 3)
    have HS0 := Lib.hid (h.set k 0)
    have hE : giveE l k = if slUse (l.getD k 0) = true then 0 else 7 := by unfold giveE; rw [if_pos hin, Int.toNat_natCast]
    have hL : giveL l k = if giveE l k = 0 then l.set k (if l.getD k 0 = 2 then 3 else 0) else l := by unfold giveL; rw [Int.toNat_natCast]
    obtain ⟨E, hE'⟩ : ∃ E, giveE l k = E := ⟨_, rfl⟩
    obtain ⟨L, hL'⟩ : ∃ L, giveL l k = L := ⟨_, rfl⟩
    rw [hE'] at hE hL ⊢
    rw [hL'] at hL ⊢
    clear hE' hL'
    obtain ⟨n, hn'⟩ : ∃ n, l.length = n := ⟨_, rfl⟩
    rw [hn'] at hle hkl h2 ⊢
    have k0 : (0 : Int) ≤ (k : Int) := by omega
    have k1 : (k : Int) < (n : Int) := by omega
    obtain ⟨y, hy⟩ : ∃ y, l.getD k 0 = y := ⟨_, rfl⟩
    rw [hy] at hE hL e1
    clear h hin h2 hn' hy hkl
    by_cases ht : y = 2
    · obtain rfl : E = 0 := by rw [hE, ht]; rfl
      obtain rfl : L = l.set k 3 := by rw [hL, if_pos rfl, if_pos ht]
      subst ht
      clear hE hL
      go_enter Try.func13, Try.ntmps13
      go_wp2
      go_ret
      exact ⟨rfl, HS3.out, (KeptIn.refl _ _).setCell (p := ⟨g, k, none⟩) (by simp) _⟩
    · by_cases ho : y = 1
      · obtain rfl : E = 0 := by rw [hE, ho]; rfl
        obtain rfl : L = l.set k 0 := by rw [hL, if_pos rfl, if_neg ht]
        subst ho
        clear hE hL
        go_enter Try.func13, Try.ntmps13
        go_wp2
        go_ret
        exact ⟨rfl, HS0.out, (KeptIn.refl _ _).setCell (p := ⟨g, k, none⟩) (by simp) _⟩
      · obtain rfl : E = 7 := by rw [hE, if_neg (by simp [slUse, ho, ht])]
        obtain rfl : L = l := by rw [hL, if_neg (by decide)]
        have n1 : (y != 1) = true := by simp [ho]
        have n2 : (y != 2) = true := by simp [ht]
        clear hE hL HS0 HS3
        go_enter Try.func13, Try.ntmps13
        go_wp2
        go_ret
        exact ⟨rfl, H.out, .refl _ _⟩
  · have hE : giveE l i = 1 := by unfold giveE; rw [if_neg hin]
    have hL : giveL l i = l := by unfold giveL; rw [if_neg (by rw [hE]; decide)]
    rw [hE, hL]
    have h2 : ¬ (0 ≤ i ∧ i < l.length) := by simpa [slIn] using hin
    obtain ⟨n, hn'⟩ : ∃ n, l.length = n := ⟨_, rfl⟩
    rw [hn'] at h2 ⊢
    clear h hin hE hL hn' hle
    by_cases hi : i < 0
    · clear h2
      go_enter Try.func13, Try.ntmps13
      go_wp2
      go_ret
      exact ⟨rfl, H.out, .refl _ _⟩
    · have hi2 : (n : Int) ≤ i := by omega
      clear h2
      go_enter Try.func13, Try.ntmps13
      go_wp2
      go_ret
      exact ⟨rfl, H.out, .refl _ _⟩

set_option maxHeartbeats 1000000 in
theorem r10Commit (g : Nat) (l : List Int) (w : World) (h : RowF 3 slV g l w) (hle : l.length ≤ 256) :
    Calls Try.prog 15 #[.slice (some ⟨g, 0, none⟩) l.length l.length] w fun e w' => e = .returned (.tuple #[]) ∧ RowF 3 slV g (l.map comL) w' ∧ KeptIn (· ≠ g) w w' := by
  obtain ⟨n, hn⟩ : ∃ n, l.length = n := ⟨_, rfl⟩
  have hm : (n : Int) ≤ 256 := by omega
  have HN := Lib.hid hn
  have H0 : Hid (RowF 3 slV g (mixL l 0) w ∧ KeptIn (· ≠ g) w w) := Lib.hid ⟨by rw [mixL_zero]; exact h, .refl _ _⟩
  rw [hn]
  clear h hn hle
  go_enter Try.func15, Try.ntmps15
  go_wp2_with fail
  go_loopw [2] (fun c wr => ∃ (j : Nat) (V : World), V = wr ∧ j ≤ n ∧ c = .int .i64 j ∧ Hid (RowF 3 slV g (mixL l j) V ∧ KeptIn (· ≠ g) w V)) (fun c _ => n - (RowKit.intOf c).toNat)
  case atStart => exact ⟨0, _, rfl, Nat.zero_le _, rfl, H0⟩
  case round =>
    obtain ⟨j, V, rfl, hj, rfl, HJ⟩ := hrel
    clear H0
    have d0 : (0 : Int) ≤ (j : Int) := by omega
    by_cases hlt : j < n
    · have d1 : (j : Int) < (n : Int) := by omega
      have hjl : j < l.length := by rw [HN.out]; exact hlt
      have e1 := HJ.out.1.cell j (mixL_at l j hjl)
      have f1 := HJ.out.1.fro j
      have hs := mixL_succ l j hjl
      have hq := mixL_same l j hjl
      obtain ⟨y, hy⟩ : ∃ y, l.getD j 0 = y := ⟨_, rfl⟩
      rw [hy] at e1 hs hq
      by_cases h3 : y = 3
      · have HJ2 : Hid (RowF 3 slV g (mixL l (j + 1)) (V.setCell ⟨g, j, none⟩ (slV 0)) ∧ KeptIn (· ≠ g) w (V.setCell ⟨g, j, none⟩ (slV 0))) := Lib.hid ⟨by
          rw [hs, show comL y = 0 by rw [h3]; rfl]; exact HJ.out.1.set j 0, HJ.out.2.setCell (p := ⟨g, j, none⟩) (by simp) _⟩
        subst h3
        clear hy HJ hjl hs hq
        go_wp2_with fail
        go_roundw
        case rel => exact ⟨j + 1, _, rfl, by omega, by go_num, HJ2⟩
        case measure => simp [RowKit.intOf]; omega
      · by_cases h1 : y = 1
        · have HJ2 : Hid (RowF 3 slV g (mixL l (j + 1)) (V.setCell ⟨g, j, none⟩ (slV 2)) ∧ KeptIn (· ≠ g) w (V.setCell ⟨g, j, none⟩ (slV 2))) := Lib.hid ⟨by
            rw [hs, show comL y = 2 by rw [h1]; rfl]; exact HJ.out.1.set j 2, HJ.out.2.setCell (p := ⟨g, j, none⟩) (by simp) _⟩
          subst h1
          clear hy HJ hjl hs hq
          go_wp2_with fail
          go_roundw
          case rel => exact ⟨j + 1, _, rfl, by omega, by go_num, HJ2⟩
          case measure => simp [RowKit.intOf]; omega
        · have HJ2 : Hid (RowF 3 slV g (mixL l (j + 1)) V ∧ KeptIn (· ≠ g) w V) := Lib.hid ⟨by
            rw [hq (by unfold comL; rw [if_neg h3, if_neg h1])]; exact HJ.out.1, HJ.out.2⟩
          clear hy HJ hjl hs hq
          go_wp2_with fail
          go_roundw
          case rel => exact ⟨j + 1, _, rfl, by omega, by go_num, HJ2⟩
          case measure => simp [RowKit.intOf]; omega
    · have d1 : (n : Int) ≤ (j : Int) := by omega
      have HA : Hid (RowF 3 slV g (l.map comL) V ∧ KeptIn (· ≠ g) w V) := Lib.hid ⟨by rw [← mixL_all l j (by rw [HN.out]; omega)]; exact HJ.out.1, HJ.out.2⟩
      clear HJ
      go_wp2_with fail
      go_end0
      exact ⟨rfl, HA.out⟩

end Go.Proofs.Yteppjjgnkjkfhaa
