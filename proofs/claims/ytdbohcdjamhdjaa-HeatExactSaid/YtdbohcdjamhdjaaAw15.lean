/- Heats: sums and lists of few chunks; awake of layer 15. -/
import Derived.Test.YtdbohcdjamhdjaaHu15
set_option linter.unusedVariables false
namespace Go.Proofs.Ytdbohcdjamhdjaa
open Go.RowKit Go.Maps

theorem sum_one {f : Int → Nat} {c : Int} (h1 : 0 ≤ c) (h2 : c < 1024) (h : ∀ d, d ≠ c → f d = 0) : sumHt f = f c := by
  have a1 : sumTo f (fun _ => false) = 0 := sumTo_none f fun _ _ => rfl
  have a2 := sumTo_step f (P := fun _ => false) (Q := fun q => decide (q = c)) h1 h2 rfl (by simp) fun d hd h0 => absurd (h d hd) h0
  have a3 := sumTo_all f (P := fun q => decide (q = c)) fun d hd => decide_eq_true (Classical.byContradiction fun e => hd (h d e))
  omega
theorem sum_two {f : Int → Nat} {c d : Int} (h1 : 0 ≤ c) (h2 : c < 1024) (h3 : 0 ≤ d) (h4 : d < 1024) (hcd : c ≠ d) (h : ∀ x, x ≠ c → x ≠ d → f x = 0) : sumHt f = f c + f d := by
  have a1 : sumTo f (fun _ => false) = 0 := sumTo_none f fun _ _ => rfl
  have a2 := sumTo_step f (P := fun _ => false) (Q := fun q => decide (q = c)) h1 h2 rfl (by simp) fun x hx h0 => by simp [hx]
  have a3 := sumTo_step f (P := fun q => decide (q = c)) (Q := fun q => decide (q = c) || decide (q = d)) (c := d) h3 h4 (by simp [hcd.symm]) (by simp) fun x hx h0 => by simp [hx]
  have a4 := sumTo_all f (P := fun q => decide (q = c) || decide (q = d)) fun x hx => by
    by_cases e1 : x = c
    · simp [e1]
    · by_cases e2 : x = d
      · simp [e2]
      · exact absurd (h x e1 e2) hx
  omega
theorem hots_eq {f : Int → Nat} (hr : ∀ c, f c ≠ 0 → 1 ≤ c ∧ c ≤ 1023) {l : List Int} (hs : l.Pairwise (· < ·)) (h : ∀ c, c ∈ l ↔ f c ≠ 0) : hots f = l :=
  sorted_eq9 ((upTo_sorted _ _).imp fun h => Int.le_of_lt h) (hs.imp fun h => Int.le_of_lt h) (hots_nodup f) (hs.imp fun h e => by omega) fun c => (hots_mem hr c).trans (h c).symm

theorem HtD.go {b m : Nat} {f : Int → Nat} {w W : World} {B : Nat} {e : Ending} (h : HtD b m f w e W) (hB : B ≤ w.heap.size) (hm : B ≤ m) : KeptIn (· < B) w W := h.2.2.mono fun k hk => ⟨Nat.lt_of_lt_of_le hk hB, by omega⟩
theorem KeptIn.on15 {a b c : World} (h : KeptIn (· < a.heap.size) a b) (k : KeptIn (· < b.heap.size) b c) : KeptIn (· < a.heap.size) a c := h.trans (k.mono fun _ hk => Nat.lt_of_lt_of_le hk h.size)

set_option maxRecDepth 100000 in
theorem awake15 (w : World) : Calls Try.prog 11 #[] w fun e w' => e = .returned (.bool true) ∧ KeptIn (· < w.heap.size) w w' := by
  go_enter Try.func11, Try.ntmps11
  go_wp2_with fail
  refine (htNew w).mono ?_
  rintro e W1 hN
  unfold NewHt at hN
  obtain ⟨b, m, rfl, hb, hm1, hb1, hk⟩ := hN
  have C := Lib.hid (htTouch hb 7 5 (by decide) (by decide))
  have HM := Lib.hid (And.intro hm1 hk)
  clear hb hm1 hb1 hk
  go_wp2_with fail
  refine C.out.mono ?_
  rintro e W2 hD
  obtain rfl : e = .returned (.tuple #[]) := hD.1
  have C2 := Lib.hid (htDecay' hD.2.1)
  have HK := Lib.hid (HM.out.2.trans (hD.go HM.out.2.size HM.out.1))
  clear hD C
  go_wp2_with fail
  refine C2.out.mono ?_
  rintro e W3 hD
  obtain rfl : e = .returned (.tuple #[]) := hD.1
  obtain ⟨f, hf⟩ : ∃ f, dcy (tch (fun _ => 0) 7 5) = f := ⟨_, rfl⟩
  rw [hf] at hD
  have f7 : f 7 = 2 := by rw [← hf]; rfl
  have f0 : ∀ d, d ≠ 7 → f d = 0 := fun d hd => by
    rw [← hf]
    show (htS (fun _ => 0) 7 _ d) / 2 = 0
    rw [htS_other _ _ hd]
  have hs : sumHt f = 2 := by rw [sum_one (c := 7) (by omega) (by omega) f0, f7]
  have hh : hots f = [7] := hots_eq hD.2.1.ran (by simp) fun c => by
    by_cases e : c = 7
    · subst e; simp [f7]
    · simp [e, f0 c e]
  have HK3 := Lib.hid (HK.out.trans (hD.go HK.out.size HM.out.1))
  have C3 := Lib.hid (hotOk _ _ _ _ hD.2.1)
  have HF := Lib.hid (And.intro f7 (And.intro (f0 8 (by omega)) (And.intro hs hh)))
  have H3 := Lib.hid hD.2.1
  clear C2 hf f7 f0 hs hh hD HK HM
  go_wp2_with fail
  refine C3.out.mono ?_
  rintro e W4 hS
  unfold HotS at hS
  obtain ⟨a, cap, rfl, hrow, hk⟩ := hS
  rw [HF.out.2.2.2] at hrow ⊢
  obtain ⟨g, rfl, e0⟩ := hrow.at (i := 0) (c := 7) rfl
  have C4 := Lib.hid (htOf (H3.out.old hk) 7 (by decide))
  have C5 := Lib.hid (htSum (H3.out.old hk))
  rw [HF.out.1] at C4
  rw [HF.out.2.2.1] at C5
  have HR := Lib.hid hrow
  have HK4 := Lib.hid (HK3.out.on15 (hk.mono fun k hk => hk))
  have HO := Lib.hid hk
  clear C3 hrow hk
  simp only [List.length_cons, List.length_nil, Nat.zero_add]
  go_wp2_with fail
  refine C4.out.mono ?_
  rintro e _ ⟨rfl, rfl⟩
  go_wp2_with fail
  refine C5.out.mono ?_
  rintro e W5 ⟨rfl, k5⟩
  have e1 := ((HR.out.kept k5 (fun g _ h _ => h)).at (i := 0) (c := 7) rfl)
  obtain ⟨g', hg', e1⟩ := e1
  obtain rfl : g' = g := by simpa using hg'.symm
  have C6 := Lib.hid (htOf ((H3.out.old HO.out).old k5) 8 (by decide))
  rw [HF.out.2.1] at C6
  have HK5 := Lib.hid (HK4.out.on15 k5)
  clear C4 C5 hg' e0 HR HO H3 HF k5
  go_wp2_with fail
  refine C6.out.mono ?_
  rintro e _ ⟨rfl, rfl⟩
  go_wp2_with fail
  go_ret
  exact ⟨rfl, HK5.out⟩

end Go.Proofs.Ytdbohcdjamhdjaa
