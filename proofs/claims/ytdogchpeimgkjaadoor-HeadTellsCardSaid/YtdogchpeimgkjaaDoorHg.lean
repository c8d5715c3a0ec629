/- Package head's Good, and the reference's. -/
import Derived.Test.YtdogchpeimgkjaaDoorHd
import Derived.Test.YtdogchpeimgkjaaDoorConv
import Derived.Deep.QuietTactic
import Derived.BigQuiet
import Derived.BigRegion
import Derived.Deep.RegionHeld3
import Derived.LoopTactic
import Derived.Outline
import Derived.Lib.Hide
set_option linter.unusedVariables false
namespace Go.Proofs.YtdogchpeimgkjaaDoor
open Go.RowKit

/-- A head, boxed. -/
def BoxH (x : Nat) (h : Hd) (W : World) : Prop := W.heap[x]? = some (.cells #[.int .u64 h.gen, .int .i64 h.root, .int .i64 h.slow, .int .i64 h.fast, .int .i64 h.chunk] 25 (0, 0))
section
variable {x : Nat} {h : Hd} {W W' : World}
theorem BoxH.c0 (k : BoxH x h W) : W.cell? ⟨x, 0, none⟩ = some (.int .u64 h.gen) := by simp [World.cell?, show W.heap[x]? = _ from k]
theorem BoxH.c1 (k : BoxH x h W) : W.cell? ⟨x, 1, none⟩ = some (.int .i64 h.root) := by simp [World.cell?, show W.heap[x]? = _ from k]
theorem BoxH.c2 (k : BoxH x h W) : W.cell? ⟨x, 2, none⟩ = some (.int .i64 h.slow) := by simp [World.cell?, show W.heap[x]? = _ from k]
theorem BoxH.c3 (k : BoxH x h W) : W.cell? ⟨x, 3, none⟩ = some (.int .i64 h.fast) := by simp [World.cell?, show W.heap[x]? = _ from k]
theorem BoxH.c4 (k : BoxH x h W) : W.cell? ⟨x, 4, none⟩ = some (.int .i64 h.chunk) := by simp [World.cell?, show W.heap[x]? = _ from k]
theorem BoxH.fz (k : BoxH x h W) (i : Nat) : W.frozen? ⟨x, i, none⟩ = false := by simp [World.frozen?, show W.heap[x]? = _ from k]
theorem BoxH.lt (k : BoxH x h W) : x < W.heap.size := (Array.getElem?_eq_some_iff.1 k).1
theorem BoxH.kept {X : Nat → Prop} (h1 : BoxH x h W) (hk : KeptIn X W W') (hX : X x) : BoxH x h W' := (hk.block x hX).trans h1
theorem BoxH.new (w : World) (h : Hd) : BoxH w.heap.size h (w.alloc (.cells #[.int .u64 h.gen, .int .i64 h.root, .int .i64 h.slow, .int .i64 h.fast, .int .i64 h.chunk] 25)) := heap_alloc_new w _
end

theorem hdWithin (n lo hi : Int) (b : Bool) (hb : decide (lo ≤ n ∧ n ≤ hi) = b) (w : World) :
    Calls Tryd.prog 18 #[.int .i64 n, .int .i64 lo, .int .i64 hi] w fun e w' => e = .returned (.bool b) ∧ w = w' := by
  have HB := Lib.hid hb
  clear hb
  by_cases h1 : lo ≤ n
  · by_cases h2 : n ≤ hi
    · obtain rfl : b = true := by rw [← HB.out]; exact decide_eq_true ⟨h1, h2⟩
      go_enter Tryd.func18, Tryd.ntmps18
      go_wp2
      go_ret
      exact ⟨rfl, rfl⟩
    · obtain rfl : b = false := by rw [← HB.out]; exact decide_eq_false fun h => h2 h.2
      go_enter Tryd.func18, Tryd.ntmps18
      go_wp2
      go_ret
      exact ⟨rfl, rfl⟩
  · obtain rfl : b = false := by rw [← HB.out]; exact decide_eq_false fun h => h1 h.1
    go_enter Tryd.func18, Tryd.ntmps18
    go_wp2
    go_ret
    exact ⟨rfl, rfl⟩

set_option maxHeartbeats 1000000 in
theorem hdGood (h : Hd) (w : World) : Calls Tryd.prog 8 #[headV h] w fun e w' => e = .returned (.bool (goodH h)) ∧ KeptIn (· < w.heap.size) w w' := by
  obtain ⟨o, ho⟩ : ∃ o, goodH h = o := ⟨_, rfl⟩
  rw [ho]
  obtain ⟨g, r, s, f, c⟩ := h
  unfold goodH Hd.can at ho
  unfold headV
  simp only at ho ⊢
  have HO := Lib.hid ho
  clear ho
  have W1 := Lib.hid fun b hb V => hdWithin r 0 511 b hb V
  have W2 := Lib.hid fun b hb V => hdWithin s 1 256 b hb V
  have W3 := Lib.hid fun b hb V => hdWithin f 1 256 b hb V
  have W4 := Lib.hid fun b hb V => hdWithin c 1 8 b hb V
  by_cases h1 : (1 : Int) ≤ (g : Int)
  · by_cases h2 : (g : Int) ≤ 4294967295
    · have HG := Lib.hid (show 1 ≤ g ∧ g ≤ 4294967295 by omega)
      by_cases h3 : 0 ≤ r ∧ r ≤ 511
      · have B1 := Lib.hid (W1.out true (decide_eq_true h3))
        have H3 := Lib.hid h3
        clear W1 h3
        by_cases h4 : 1 ≤ s ∧ s ≤ 256
        · have B2 := Lib.hid (W2.out true (decide_eq_true h4))
          have H4 := Lib.hid h4
          clear W2 h4
          by_cases h5 : 1 ≤ f ∧ f ≤ 256
          · have B3 := Lib.hid (W3.out true (decide_eq_true h5))
            have H5 := Lib.hid h5
            clear W3 h5
            by_cases h6 : 1 ≤ c ∧ c ≤ 8
            · obtain rfl : o = true := by rw [← HO.out]; exact decide_eq_true ⟨HG.out.1, HG.out.2, H3.out.1, H3.out.2, H4.out.1, H4.out.2, H5.out.1, H5.out.2, h6⟩
              have B4 := Lib.hid (W4.out true (decide_eq_true h6))
              clear W4 h6 HO HG H3 H4 H5
              go_enter Tryd.func8, Tryd.ntmps8
              go_wp2_with fail
              refine (B1.out _).mono ?_
              rintro e _ ⟨rfl, rfl⟩
              go_wp2_with fail
              refine (B2.out _).mono ?_
              rintro e _ ⟨rfl, rfl⟩
              go_wp2_with fail
              refine (B3.out _).mono ?_
              rintro e _ ⟨rfl, rfl⟩
              go_wp2_with fail
              refine (B4.out _).mono ?_
              rintro e _ ⟨rfl, rfl⟩
              go_wp2_with fail
              go_ret
              exact ⟨rfl, (KeptIn.refl _ _).alloc (fun _ h => h) _⟩
            · obtain rfl : o = false := by rw [← HO.out]; exact decide_eq_false fun h => h6 h.2.2.2.2.2.2.2.2
              have B4 := Lib.hid (W4.out false (decide_eq_false h6))
              clear W4 h6 HO HG H3 H4 H5
              go_enter Tryd.func8, Tryd.ntmps8
              go_wp2_with fail
              refine (B1.out _).mono ?_
              rintro e _ ⟨rfl, rfl⟩
              go_wp2_with fail
              refine (B2.out _).mono ?_
              rintro e _ ⟨rfl, rfl⟩
              go_wp2_with fail
              refine (B3.out _).mono ?_
              rintro e _ ⟨rfl, rfl⟩
              go_wp2_with fail
              refine (B4.out _).mono ?_
              rintro e _ ⟨rfl, rfl⟩
              go_wp2_with fail
              go_ret
              exact ⟨rfl, (KeptIn.refl _ _).alloc (fun _ h => h) _⟩
          · obtain rfl : o = false := by rw [← HO.out]; exact decide_eq_false fun h => h5 ⟨h.2.2.2.2.2.2.1, h.2.2.2.2.2.2.2.1⟩
            have B3 := Lib.hid (W3.out false (decide_eq_false h5))
            clear W3 h5 HO HG H3 H4
            go_enter Tryd.func8, Tryd.ntmps8
            go_wp2_with fail
            refine (B1.out _).mono ?_
            rintro e _ ⟨rfl, rfl⟩
            go_wp2_with fail
            refine (B2.out _).mono ?_
            rintro e _ ⟨rfl, rfl⟩
            go_wp2_with fail
            refine (B3.out _).mono ?_
            rintro e _ ⟨rfl, rfl⟩
            go_wp2_with fail
            go_ret
            exact ⟨rfl, (KeptIn.refl _ _).alloc (fun _ h => h) _⟩
        · obtain rfl : o = false := by rw [← HO.out]; exact decide_eq_false fun h => h4 ⟨h.2.2.2.2.1, h.2.2.2.2.2.1⟩
          have B2 := Lib.hid (W2.out false (decide_eq_false h4))
          clear W2 h4 HO HG H3
          go_enter Tryd.func8, Tryd.ntmps8
          go_wp2_with fail
          refine (B1.out _).mono ?_
          rintro e _ ⟨rfl, rfl⟩
          go_wp2_with fail
          refine (B2.out _).mono ?_
          rintro e _ ⟨rfl, rfl⟩
          go_wp2_with fail
          go_ret
          exact ⟨rfl, (KeptIn.refl _ _).alloc (fun _ h => h) _⟩
      · obtain rfl : o = false := by rw [← HO.out]; exact decide_eq_false fun h => h3 ⟨h.2.2.1, h.2.2.2.1⟩
        have B1 := Lib.hid (W1.out false (decide_eq_false h3))
        clear W1 h3 HO HG
        go_enter Tryd.func8, Tryd.ntmps8
        go_wp2_with fail
        refine (B1.out _).mono ?_
        rintro e _ ⟨rfl, rfl⟩
        go_wp2_with fail
        go_ret
        exact ⟨rfl, (KeptIn.refl _ _).alloc (fun _ h => h) _⟩
    · obtain rfl : o = false := by rw [← HO.out]; exact decide_eq_false fun h => h2 (by omega)
      clear HO
      go_enter Tryd.func8, Tryd.ntmps8
      go_wp2_with fail
      go_ret
      exact ⟨rfl, (KeptIn.refl _ _).alloc (fun _ h => h) _⟩
  · obtain rfl : o = false := by rw [← HO.out]; exact decide_eq_false fun h => h1 (by omega)
    clear HO
    go_enter Tryd.func8, Tryd.ntmps8
    go_wp2_with fail
    go_ret
    exact ⟨rfl, (KeptIn.refl _ _).alloc (fun _ h => h) _⟩

end Go.Proofs.YtdogchpeimgkjaaDoor
