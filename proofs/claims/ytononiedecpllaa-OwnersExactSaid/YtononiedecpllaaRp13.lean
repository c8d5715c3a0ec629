/- The document's rows of chunks and owners: less, Has, Of. -/
import Derived.Test.YtononiedecpllaaRn13
set_option linter.unusedVariables false
namespace Go.Proofs.Ytononiedecpllaa
open Go.RowKit

theorem new44 (w : World) (x y : On) : BoxN w.heap.size x ((w.alloc (.cells #[.int .i64 x.ch, .int .i64 x.ow.vol, .int .i64 x.ow.bir, .int .i64 x.ow.pos] 35)).alloc (.cells #[.int .i64 y.ch, .int .i64 y.ow.vol, .int .i64 y.ow.bir, .int .i64 y.ow.pos] 35)) ∧
    BoxN (w.heap.size + 1) y ((w.alloc (.cells #[.int .i64 x.ch, .int .i64 x.ow.vol, .int .i64 x.ow.bir, .int .i64 x.ow.pos] 35)).alloc (.cells #[.int .i64 y.ch, .int .i64 y.ow.vol, .int .i64 y.ow.bir, .int .i64 y.ow.pos] 35)) := by
  refine ⟨(BoxN.new w x).old ((KeptIn.refl _ _).alloc (fun _ h => h) _), ?_⟩
  rw [show w.heap.size + 1 = (w.alloc (.cells #[.int .i64 x.ch, .int .i64 x.ow.vol, .int .i64 x.ow.bir, .int .i64 x.ow.pos] 35)).heap.size by simp]
  exact BoxN.new _ y

set_option maxRecDepth 100000 in
theorem rLess (x y : On) (w : World) : Calls Try.prog 26 #[onV x, onV y] w fun e w' => e = .returned (.bool (decide (ltN x y))) ∧ KeptIn (· < w.heap.size) w w' := by
  obtain ⟨W, hW⟩ : ∃ W, (w.alloc (.cells #[.int .i64 x.ch, .int .i64 x.ow.vol, .int .i64 x.ow.bir, .int .i64 x.ow.pos] 35)).alloc (.cells #[.int .i64 y.ch, .int .i64 y.ow.vol, .int .i64 y.ow.bir, .int .i64 y.ow.pos] 35) = W := ⟨_, rfl⟩
  have hb := new44 w x y
  rw [hW] at hb
  have hk : KeptIn (· < w.heap.size) w W := by rw [← hW]; exact ((KeptIn.refl _ w).alloc (fun _ h => h) _).alloc (fun _ h => h) _
  obtain ⟨p0, p1, p2, p3⟩ := hb.1.cells
  obtain ⟨q0, q1, q2, q3⟩ := hb.2.cells
  obtain ⟨t, ht⟩ : ∃ t, decide (ltN x y) = t := ⟨_, rfl⟩
  rw [ht]
  unfold ltN ltO at ht
  have HW := Lib.hid hW
  have HK := Lib.hid hk
  have HT := Lib.hid ht
  unfold onV
  obtain ⟨xc, xv, xb, xp⟩ := x
  obtain ⟨yc, yv, yb, yp⟩ := y
  dsimp only at *
  clear hW hb hk ht
  by_cases h1 : xc = yc
  · subst h1
    by_cases h2 : xv = yv
    · subst h2
      by_cases h3 : xb = yb
      · subst h3
        obtain rfl : t = decide (xp < yp) := HT.out.symm.trans (decide_eq_decide.2 (by omega))
        clear HT
        go_enter Try.func26, Try.ntmps26
        go_upto_region 1 with fail
        rw [HW.out]
        go_wp2_with fail
        go_ret
        exact ⟨rfl, HK.out⟩
      · obtain rfl : t = decide (xb < yb) := HT.out.symm.trans (decide_eq_decide.2 (by omega))
        clear HT
        go_enter Try.func26, Try.ntmps26
        go_upto_region 1 with fail
        rw [HW.out]
        go_wp2_with fail
        go_ret
        exact ⟨rfl, HK.out⟩
    · obtain rfl : t = decide (xv < yv) := HT.out.symm.trans (decide_eq_decide.2 (by omega))
      clear HT
      go_enter Try.func26, Try.ntmps26
      go_upto_region 1 with fail
      rw [HW.out]
      go_wp2_with fail
      go_ret
      exact ⟨rfl, HK.out⟩
  · obtain rfl : t = decide (xc < yc) := HT.out.symm.trans (decide_eq_decide.2 (by omega))
    clear HT
    go_enter Try.func26, Try.ntmps26
    go_upto_region 1 with fail
    rw [HW.out]
    go_wp2_with fail
    go_ret
    exact ⟨rfl, HK.out⟩

theorem mem_take_next {l : List On} {i : Nat} {x y : On} (hy : l[i]? = some y) (hn : x ∉ l.take i) (hne : y ≠ x) : x ∉ l.take (i + 1) := by
  obtain ⟨h1, h2⟩ := List.getElem?_eq_some_iff.1 hy
  rw [List.take_succ_eq_append_getElem h1, h2, List.mem_append, List.mem_singleton]
  rintro (h | h)
  · exact hn h
  · exact hne h.symm

set_option maxRecDepth 100000 in
theorem rHas (a : Option Addr) (cap : Nat) (l : List On) (x : On) (B : Nat) (w : World) (h : RowN w B (.slice a l.length cap) l) :
    Calls Try.prog 9 #[.slice a l.length cap, onV x] w fun e w' => e = .returned (.bool (decide (x ∈ l))) ∧ KeptIn (· < w.heap.size) w w' := by
  obtain ⟨W0, hW⟩ : ∃ W, w.alloc (.cells #[.int .i64 x.ch, .int .i64 x.ow.vol, .int .i64 x.ow.bir, .int .i64 x.ow.pos] 35) = W := ⟨_, rfl⟩
  have hb : BoxN w.heap.size x W0 := by rw [← hW]; exact BoxN.new w x
  have hk : KeptIn (· < w.heap.size) w W0 := by rw [← hW]; exact (KeptIn.refl _ w).alloc (fun _ h => h) _
  have hl : l.length ≤ maxLen := by
    obtain ⟨a', cap', e, h1, h2⟩ := h.shape
    exact Nat.le_trans h1 h2
  unfold maxLen at hl
  obtain ⟨n, hn⟩ : ∃ n, l.length = n := ⟨_, rfl⟩
  obtain ⟨t, ht⟩ : ∃ t, decide (x ∈ l) = t := ⟨_, rfl⟩
  have h' := h.old hk
  rw [hn] at h' hl ⊢
  rw [ht]
  have H := Lib.hid h'
  have HN := Lib.hid hn
  have HT := Lib.hid ht
  have HW := Lib.hid hW
  have HK := Lib.hid (And.intro hk hb)
  have HE := Lib.hid fun (y : On) (V : World) => eqOn y x V
  have m0 : (n : Int) ≤ 9223372036854775807 := by omega
  unfold onV at *
  clear h h' hn ht hW hk hb hl
  go_enter Try.func9, Try.ntmps9
  go_upto_region 1 with fail
  rw [HW.out]
  go_wp2_with fail
  go_loopw [5] (fun i wr => ∃ (j : Nat) (V : World), V = wr ∧ j ≤ n ∧ i = .int .i64 j ∧ Hid (x ∉ l.take j ∧ KeptIn (· < W0.heap.size) W0 V)) (fun i _ => n - (RowKit.intOf i).toNat)
  case atStart => exact ⟨0, _, rfl, Nat.zero_le _, rfl, Lib.hid ⟨by simp, KeptIn.refl _ _⟩⟩
  case round =>
    obtain ⟨j, V, rfl, hj, rfl, HJ⟩ := hrel
    by_cases hlt : j < n
    · have d0 : (0 : Int) ≤ (j : Int) := by omega
      have d1 : (j : Int) < (n : Int) := by omega
      obtain ⟨y, hy⟩ : ∃ y, l[j]? = some y := ⟨_, List.getElem?_eq_getElem (by rw [HN.out]; exact hlt)⟩
      obtain ⟨g, rfl, hg, c0, c1, c2, c3⟩ := (H.out.old HJ.out.2).at hy
      obtain ⟨q0, q1, q2, q3⟩ := (HK.out.2.old HJ.out.2).cells
      have HD := Lib.hid (KeptIn.on HJ.out.2 (KeptIn.refl _ V).drew)
      have HY := Lib.hid hy
      have E := HE.out y
      obtain ⟨u, hu⟩ : ∃ u, decide (y = x) = u := ⟨_, rfl⟩
      rw [hu] at E
      have HU := Lib.hid hu
      clear hy hg hu HE
      cases u with
      | true =>
        go_wp2_with fail
        go_region
        go_wp2_with fail
        go_ret
        refine ⟨?_, HK.out.1.on HD.out⟩
        have h1 : x ∈ l := by
          have h2 := of_decide_eq_true HU.out
          rw [← h2]
          exact List.mem_of_getElem? HY.out
        rw [← HT.out, decide_eq_true h1]
        rfl
      | false =>
        go_wp2_with fail
        go_region
        go_wp2_with fail
        go_roundw
        case rel => exact ⟨j + 1, _, rfl, by omega, by go_num, Lib.hid ⟨mem_take_next HY.out HJ.out.1 (of_decide_eq_false HU.out), HD.out⟩⟩
        case measure => simp [RowKit.intOf]; omega
    · obtain rfl : j = n := by omega
      obtain rfl : t = false := by
        rw [← HT.out]
        have h1 := HJ.out.1
        rw [List.take_of_length_le (by rw [HN.out]; exact Nat.le_refl _)] at h1
        exact decide_eq_false h1
      have HD := Lib.hid HJ.out.2
      clear HJ hlt hj
      go_wp2_with fail
      go_ret
      exact ⟨rfl, HK.out.1.on HD.out⟩

end Go.Proofs.Ytononiedecpllaa
