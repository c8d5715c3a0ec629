/- Wants. -/
import Derived.Test.YtjhmcfhbjfjmkaaUr16
set_option linter.unusedVariables false
namespace Go.Proofs.Ytjhmcfhbjfjmkaa
open Go.RowKit

attribute [local go_sem high] run_min2f run_max2f

/-- Who moves, and whither. -/
def wn (l : List It16) (room n : Int) : Int × Int × Bool :=
  if (pk (upL l) n).ch = 0 then (0, 0, false)
  else if 0 < room then ((pk (upL l) n).ch, 1, true)
  else if (pk (dnL l) n).ch ≠ 0 ∧ ((pk (upL l) n).pn = true ∨ lv (pk (dnL l) n).he < lv (pk (upL l) n).he) then ((pk (dnL l) n).ch, 0, true)
  else (0, 0, false)
def WnS (w : World) (r : Int × Int × Bool) (e : Ending) (w' : World) : Prop := e = .returned (.tuple #[.int .i64 r.1, .int .i64 r.2.1, .bool r.2.2]) ∧ KeptIn (· < w.heap.size) w w'

set_option maxHeartbeats 2000000 in
set_option maxRecDepth 100000 in
theorem rkWants (a : Option Addr) (cap : Nat) (l : List It16) (room n : Int) (w : World) (h : IsI w a l) (hl : l.length ≤ 1000) :
    Calls Try.prog 10 #[.slice a l.length cap, .int .i64 room, .int .i64 n] w (WnS w (wn l room n)) := by
  have C := Lib.hid (rkup a cap l n w h hl)
  have gu := pk_good h.good (upL_sub l) n
  have gd := pk_good h.good (dnL_sub l) n
  have D : ∀ V, KeptIn (· < w.heap.size) w V → Calls Try.prog 18 #[.slice a l.length cap, .int .i64 n] V (ItS V (pk (dnL l) n)) := fun V hk => rkdown a cap l n V (h.old hk) hl
  obtain ⟨R, hR⟩ : ∃ R, wn l room n = R := ⟨_, rfl⟩
  have hR2 := hR
  unfold wn at hR2
  obtain ⟨u, hu⟩ : ∃ u, pk (upL l) n = u := ⟨_, rfl⟩
  obtain ⟨d, hd⟩ : ∃ d, pk (dnL l) n = d := ⟨_, rfl⟩
  obtain ⟨m, hm⟩ : ∃ m, l.length = m := ⟨_, rfl⟩
  rw [hu] at C gu hR2
  rw [hd] at D gd hR2
  rw [hm] at C D ⊢
  rw [hR]
  have HR := Lib.hid hR2
  have HD := Lib.hid D
  have HG := Lib.hid (And.intro gu gd)
  clear h hl gu gd D hR hR2 hu hd hm
  go_enter Try.func10, Try.ntmps10
  go_wp2_with fail
  refine C.out.mono ?_
  rintro e V1 ⟨rfl, hk⟩
  have hko := keptNew V1 (.cells #[.int .i64 u.ch, .int .i64 u.he, .int .i64 u.ti, .bool u.pn, .bool u.bu] 35)
  have hb := BoxI.new V1 u 35
  have hk2 := hk.on16 hko
  obtain ⟨W, hW⟩ : ∃ W, V1.alloc (.cells #[.int .i64 u.ch, .int .i64 u.he, .int .i64 u.ti, .bool u.pn, .bool u.bu] 35) = W := ⟨_, rfl⟩
  obtain ⟨y, hy⟩ : ∃ y, V1.heap.size = y := ⟨_, rfl⟩
  rw [hW] at hk2 hb
  rw [hy] at hb
  have HW := Lib.hid hW
  have HY := Lib.hid hy
  have HB := Lib.hid hb
  have HK := Lib.hid hk2
  have HKV := Lib.hid (hk.on16 hko)
  unfold itV
  clear C hk hko hb hk2 hW hy
  by_cases hu : u.ch = 0
  · have z0 : (u.ch == 0) = true := by rw [beq_iff_eq]; exact hu
    have hr : R = (0, 0, false) := by rw [← HR.out, if_pos hu]
    subst hr
    clear HR hu
    go_wp2_with fail
    go_ret3
    exact ⟨rfl, HKV.out⟩
  have z0 : (u.ch == 0) = false := by rw [beq_eq_false_iff_ne]; exact hu
  by_cases hrm : 0 < room
  · have hr : R = (u.ch, 1, true) := by rw [← HR.out, if_neg hu, if_pos hrm]
    subst hr
    clear HR hu
    go_wp2_with fail
    go_ret3
    exact ⟨rfl, HKV.out⟩
  have z1 : decide (0 < room) = false := decide_eq_false hrm
  have HR2 := Lib.hid (show (if d.ch ≠ 0 ∧ (u.pn = true ∨ lv d.he < lv u.he) then (d.ch, 0, true) else (0, 0, false)) = R by rw [← HR.out, if_neg hu, if_neg hrm])
  clear HR hu HKV
  go_wp2_with fail
  rw [HW.out]
  simp only [HY.out]
  refine (HD.out W HK.out).mono ?_
  rintro e V2 ⟨rfl, hk⟩
  have hb2 := HB.out.old hk
  have hko := keptNew V2 (.cells #[.int .i64 d.ch, .int .i64 d.he, .int .i64 d.ti, .bool d.pn, .bool d.bu] 35)
  have hd2 := BoxI.new V2 d 35
  have hu2 := hb2.old hko
  have hk2 := (HK.out.on16 hk).on16 hko
  obtain ⟨X, hX⟩ : ∃ X, V2.alloc (.cells #[.int .i64 d.ch, .int .i64 d.he, .int .i64 d.ti, .bool d.pn, .bool d.bu] 35) = X := ⟨_, rfl⟩
  obtain ⟨y2, hy2⟩ : ∃ y2, V2.heap.size = y2 := ⟨_, rfl⟩
  rw [hX] at hk2 hd2 hu2
  rw [hy2] at hd2
  have HX := Lib.hid hX
  have HY2 := Lib.hid hy2
  have HKX := Lib.hid hk2
  obtain ⟨u0, u1, _, u3, _⟩ := hu2.at
  obtain ⟨v0, v1, _, v3, _⟩ := hd2.at
  simp only [Nat.zero_add] at u1 u3 v1 v3
  have HLu := Lib.hid (rkLevel u.he HG.out.1.2.1)
  have HLd := Lib.hid (rkLevel d.he HG.out.2.2.1)
  unfold itV
  clear hk hb2 hko hk2 hX hy2 HD HW HY HB HK hd2 hu2 HG
  obtain ⟨lu, hlu⟩ : ∃ lu, lv u.he = lu := ⟨_, rfl⟩
  obtain ⟨ld, hld⟩ : ∃ ld, lv d.he = ld := ⟨_, rfl⟩
  rw [hlu] at HLu HR2
  rw [hld] at HLd HR2
  clear hlu hld
  go_wp2_with fail
  rw [HX.out]
  simp only [HY2.out]
  by_cases hd : d.ch = 0
  · have z3 : (d.ch != 0) = false := by rw [hd]; rfl
    have hr : R = (0, 0, false) := by rw [← HR2.out, if_neg (fun h => h.1 hd)]
    subst hr
    clear HR2 hd
    go_quiet ((go_at_call 8; first | exact Calls.quiet_of_same (HLu.out _) | exact Calls.quiet_of_same (HLd.out _)))
    go_wp2_with fail
    go_ret3
    exact ⟨rfl, HKX.out.drewN _⟩
  have z3 : (d.ch != 0) = true := by rw [bne_iff_ne]; exact hd
  cases hp : u.pn with
  | true =>
    have hr : R = (d.ch, 0, true) := by rw [← HR2.out, if_pos ⟨hd, .inl hp⟩]
    rw [hp] at u3
    subst hr
    clear HR2 hd
    try simp only [hp]
    go_quiet ((go_at_call 8; first | exact Calls.quiet_of_same (HLu.out _) | exact Calls.quiet_of_same (HLd.out _)))
    go_wp2_with fail
    go_ret3
    exact ⟨rfl, HKX.out.drewN _⟩
  | false =>
    rw [hp] at u3
    try simp only [hp]
    by_cases hl : ld < lu
    · have z4 : decide ((ld : Int) < (lu : Int)) = true := decide_eq_true (by omega)
      have z5 : decide (ld < lu) = true := decide_eq_true hl
      have hr : R = (d.ch, 0, true) := by rw [← HR2.out, if_pos ⟨hd, .inr hl⟩]
      subst hr
      clear HR2 hd hl hp
      go_quiet ((go_at_call 8; first | exact Calls.quiet_of_same (HLu.out _) | exact Calls.quiet_of_same (HLd.out _)))
      go_wp2_with fail
      go_ret3
      exact ⟨rfl, HKX.out.drewN _⟩
    · have z4 : decide ((ld : Int) < (lu : Int)) = false := decide_eq_false (by omega)
      have z5 : decide (ld < lu) = false := decide_eq_false hl
      have hr : R = (0, 0, false) := by rw [← HR2.out, if_neg]; rintro ⟨_, h | h⟩; (rw [hp] at h; cases h); exact hl h
      subst hr
      clear HR2 hd hl hp
      go_quiet ((go_at_call 8; first | exact Calls.quiet_of_same (HLu.out _) | exact Calls.quiet_of_same (HLd.out _)))
      go_wp2_with fail
      go_ret3
      exact ⟨rfl, HKX.out.drewN _⟩

end Go.Proofs.Ytjhmcfhbjfjmkaa
