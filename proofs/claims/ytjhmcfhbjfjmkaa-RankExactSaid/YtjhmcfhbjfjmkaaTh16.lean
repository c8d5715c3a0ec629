/- Those of a list of whom something holds: the tests, and 'those' over any of them. -/
import Derived.Test.YtjhmcfhbjfjmkaaLv16
import Derived.Deep.Cut
import Derived.Deep.CutRange
set_option linter.unusedVariables false
namespace Go.Proofs.Ytjhmcfhbjfjmkaa
open Go.RowKit

attribute [local go_sem high] run_min2f run_max2f

/-- A chunk in a variable of its own. -/
theorem At16.new (w : World) (x : It16) (T : TypeId) : At16 (w.alloc (.cells #[.int .i64 x.ch, .int .i64 x.he, .int .i64 x.ti, .bool x.pn, .bool x.bu] T)) w.heap.size 0 x := by
  have h := heap_alloc_new w (.cells #[.int .i64 x.ch, .int .i64 x.he, .int .i64 x.ti, .bool x.pn, .bool x.bu] T)
  exact ⟨(cell_of_row _ _ 0 _ _ _ h).trans rfl, (cell_of_row _ _ 1 _ _ _ h).trans rfl, (cell_of_row _ _ 2 _ _ _ h).trans rfl, (cell_of_row _ _ 3 _ _ _ h).trans rfl, (cell_of_row _ _ 4 _ _ _ h).trans rfl⟩
theorem keptNew (w : World) (o : Obj) : KeptIn (· < w.heap.size) w (w.alloc o) := (KeptIn.refl _ w).alloc (fun _ h => h) _

/-- What a test answers. -/
def TsS (w : World) (r : Bool) (e : Ending) (w' : World) : Prop := e = .returned (.bool r) ∧ KeptIn (· < w.heap.size) w w'

set_option maxRecDepth 100000 in
theorem rkSlow (x : It16) (w : World) : Calls Try.prog 25 #[itV x] w (TsS w (slow16 x)) := by
  obtain ⟨c, h, t, p, u⟩ := x
  unfold itV
  have hk := Lib.hid (keptNew w (.cells #[.int .i64 c, .int .i64 h, .int .i64 t, .bool p, .bool u] 35))
  obtain ⟨r, hr⟩ : ∃ r, slow16 ⟨c, h, t, p, u⟩ = r := ⟨_, rfl⟩
  have HR := Lib.hid hr
  rw [hr]
  clear hr
  by_cases ht : t = 0
  · subst ht
    have e : r = !u := by rw [← HR.out]; simp [slow16]
    subst e
    clear HR
    go_enter Try.func25, Try.ntmps25
    go_wp2_with fail
    go_ret
    exact ⟨rfl, hk.out⟩
  · have d1 : (t == 0) = false := by rw [beq_eq_false_iff_ne]; exact ht
    have e : r = false := by rw [← HR.out]; simp [slow16, ht]
    subst e
    clear HR
    go_enter Try.func25, Try.ntmps25
    go_wp2_with fail
    go_ret
    exact ⟨rfl, hk.out⟩
set_option maxRecDepth 100000 in
theorem rkPin (x : It16) (w : World) : Calls Try.prog 26 #[itV x] w (TsS w x.pn) := by
  obtain ⟨c, h, t, p, u⟩ := x
  unfold itV
  have hk := Lib.hid (keptNew w (.cells #[.int .i64 c, .int .i64 h, .int .i64 t, .bool p, .bool u] 35))
  go_enter Try.func26, Try.ntmps26
  go_wp2_with fail
  go_ret
  exact ⟨rfl, hk.out⟩
set_option maxRecDepth 100000 in
theorem rkFast (x : It16) (w : World) : Calls Try.prog 29 #[itV x] w (TsS w (fast16 x)) := by
  obtain ⟨c, h, t, p, u⟩ := x
  unfold itV
  have hk := Lib.hid (keptNew w (.cells #[.int .i64 c, .int .i64 h, .int .i64 t, .bool p, .bool u] 35))
  obtain ⟨r, hr⟩ : ∃ r, fast16 ⟨c, h, t, p, u⟩ = r := ⟨_, rfl⟩
  have HR := Lib.hid hr
  rw [hr]
  clear hr
  by_cases ht : t = 1
  · subst ht
    cases u with
    | true =>
      have e : r = false := by rw [← HR.out]; simp [fast16]
      subst e
      clear HR
      go_enter Try.func29, Try.ntmps29
      go_wp2_with fail
      go_ret
      exact ⟨rfl, hk.out⟩
    | false =>
      have e : r = !p := by rw [← HR.out]; simp [fast16]
      subst e
      clear HR
      go_enter Try.func29, Try.ntmps29
      go_wp2_with fail
      go_ret
      exact ⟨rfl, hk.out⟩
  · have d1 : (t == 1) = false := by rw [beq_eq_false_iff_ne]; exact ht
    have e : r = false := by rw [← HR.out]; simp [fast16, ht]
    subst e
    clear HR
    go_enter Try.func29, Try.ntmps29
    go_wp2_with fail
    go_ret
    exact ⟨rfl, hk.out⟩
set_option maxRecDepth 100000 in
theorem rkOfL (x : It16) (hx : GdI x) (k : Nat) (c : Nat) (w : World) (hc : w.cell? ⟨c, 0, none⟩ = some (.int .i64 (k : Int))) (hl : c < w.heap.size) : Calls Try.prog 30 #[itV x, .pointer (some ⟨c, 0, none⟩)] w (TsS w (lv x.he == k)) := by
  have hh := hx.2.1
  obtain ⟨c0, h, t, p, u⟩ := x
  simp only at hh ⊢
  unfold itV
  have hk := keptNew w (.cells #[.int .i64 c0, .int .i64 h, .int .i64 t, .bool p, .bool u] 35)
  have hn := At16.new w ⟨c0, h, t, p, u⟩ 35
  have hc2 := (World.cell?_of_block (a := ⟨c, 0, none⟩) (hk.block c hl)).trans hc
  have he : decide ((lv h : Int) = (k : Int)) = (lv h == k) := by
    by_cases e : lv h = k
    · subst e; simp
    · have e1 : (lv h == k) = false := by rw [beq_eq_false_iff_ne]; exact e
      rw [e1]; simp; omega
  have he2 : ((lv h : Int) == (k : Int)) = (lv h == k) := by
    rw [← he]; rfl
  obtain ⟨r, hr⟩ : ∃ r, (lv h == k) = r := ⟨_, rfl⟩
  rw [hr] at he he2 ⊢
  obtain ⟨b, hb⟩ : ∃ b, w.heap.size = b := ⟨_, rfl⟩
  obtain ⟨W, hW⟩ : ∃ W, w.alloc (.cells #[.int .i64 c0, .int .i64 h, .int .i64 t, .bool p, .bool u] 35) = W := ⟨_, rfl⟩
  have HE := Lib.hid (show TsS w r (.returned (.bool r)) W from ⟨rfl, by rw [← hW]; exact hk⟩)
  rw [hW, hb] at hn
  rw [hW] at hc2
  have h1 := hn.he
  simp only [Nat.zero_add] at h1
  have C : ∀ V, Calls Try.prog 8 #[.int .i64 h] V fun e w' => e = .returned (.int .i64 (lv h : Int)) ∧ w' = V := rkLevel h hh
  have HC := Lib.hid C
  have HW := Lib.hid hW
  have HB := Lib.hid hb
  clear hk hc hl hn hr hb hW C hh hx
  go_enter Try.func30, Try.ntmps30
  go_wp2_with fail
  rw [HW.out]
  simp only [HB.out]
  go_quiet ((go_at_call 8; exact Calls.quiet_of_same (HC.out _)))
  go_wp2_with fail
  go_ret
  exact ⟨rfl, HE.out.2.drewN _⟩

end Go.Proofs.Ytjhmcfhbjfjmkaa
