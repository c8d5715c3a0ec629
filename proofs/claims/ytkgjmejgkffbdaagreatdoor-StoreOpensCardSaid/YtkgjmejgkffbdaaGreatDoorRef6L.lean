import Derived.Test.YtkgjmejgkffbdaaGreatDoorM9
/- The reference of layer 6 (tierceref06): Good. -/
set_option linter.unusedVariables false
namespace Go.Proofs.YtkgjmejgkffbdaaGreatDoor
open Go.RowKit

set_option maxHeartbeats 1000000 in
theorem r6Good (h : Hd) (w : World) : Calls Tryz.prog 32 #[headV h] w fun e w' => e = .returned (.bool (goodH h)) ∧ KeptIn (· < w.heap.size) w w' := by
  obtain ⟨o, ho⟩ : ∃ o, goodH h = o := ⟨_, rfl⟩
  rw [ho]
  obtain ⟨g, r, s, f, c⟩ := h
  unfold goodH Hd.can at ho
  unfold headV
  simp only at ho ⊢
  have HO := Lib.hid ho
  clear ho
  by_cases h1 : (g : Int) < 1
  · obtain rfl : o = false := by rw [← HO.out]; exact decide_eq_false (by omega)
    clear HO
    go_enter Tryz.func32, Tryz.ntmps32
    go_wp2_with fail
    go_ret
    exact ⟨rfl, (KeptIn.refl _ _).alloc (fun _ h => h) _⟩
  by_cases h2 : (4294967295 : Int) < (g : Int)
  · obtain rfl : o = false := by rw [← HO.out]; exact decide_eq_false (by omega)
    clear HO
    go_enter Tryz.func32, Tryz.ntmps32
    go_wp2_with fail
    go_ret
    exact ⟨rfl, (KeptIn.refl _ _).alloc (fun _ h => h) _⟩
  by_cases h3 : r < 0
  · obtain rfl : o = false := by rw [← HO.out]; exact decide_eq_false (by omega)
    clear HO
    go_enter Tryz.func32, Tryz.ntmps32
    go_wp2_with fail
    go_ret
    exact ⟨rfl, (KeptIn.refl _ _).alloc (fun _ h => h) _⟩
  by_cases h4 : 511 < r
  · obtain rfl : o = false := by rw [← HO.out]; exact decide_eq_false (by omega)
    clear HO
    go_enter Tryz.func32, Tryz.ntmps32
    go_wp2_with fail
    go_ret
    exact ⟨rfl, (KeptIn.refl _ _).alloc (fun _ h => h) _⟩
  by_cases h5 : c < 1
  · obtain rfl : o = false := by rw [← HO.out]; exact decide_eq_false (by omega)
    clear HO
    go_enter Tryz.func32, Tryz.ntmps32
    go_wp2_with fail
    go_ret
    exact ⟨rfl, (KeptIn.refl _ _).alloc (fun _ h => h) _⟩
  by_cases h6 : 8 < c
  · obtain rfl : o = false := by rw [← HO.out]; exact decide_eq_false (by omega)
    clear HO
    go_enter Tryz.func32, Tryz.ntmps32
    go_wp2_with fail
    go_ret
    exact ⟨rfl, (KeptIn.refl _ _).alloc (fun _ h => h) _⟩
  by_cases h7 : 1 ≤ s
  · by_cases h8 : s ≤ 256
    · by_cases h9 : 1 ≤ f
      · by_cases h10 : f ≤ 256
        · obtain rfl : o = true := by rw [← HO.out]; exact decide_eq_true (by omega)
          clear HO
          go_enter Tryz.func32, Tryz.ntmps32
          go_wp2_with fail
          go_ret
          exact ⟨rfl, (KeptIn.refl _ _).alloc (fun _ h => h) _⟩
        · obtain rfl : o = false := by rw [← HO.out]; exact decide_eq_false (by omega)
          clear HO
          go_enter Tryz.func32, Tryz.ntmps32
          go_wp2_with fail
          go_ret
          exact ⟨rfl, (KeptIn.refl _ _).alloc (fun _ h => h) _⟩
      · obtain rfl : o = false := by rw [← HO.out]; exact decide_eq_false (by omega)
        clear HO
        go_enter Tryz.func32, Tryz.ntmps32
        go_wp2_with fail
        go_ret
        exact ⟨rfl, (KeptIn.refl _ _).alloc (fun _ h => h) _⟩
    · obtain rfl : o = false := by rw [← HO.out]; exact decide_eq_false (by omega)
      clear HO
      go_enter Tryz.func32, Tryz.ntmps32
      go_wp2_with fail
      go_ret
      exact ⟨rfl, (KeptIn.refl _ _).alloc (fun _ h => h) _⟩
  · obtain rfl : o = false := by rw [← HO.out]; exact decide_eq_false (by omega)
    clear HO
    go_enter Tryz.func32, Tryz.ntmps32
    go_wp2_with fail
    go_ret
    exact ⟨rfl, (KeptIn.refl _ _).alloc (fun _ h => h) _⟩

end Go.Proofs.YtkgjmejgkffbdaaGreatDoor
