/- The document's Wants (tierceref16). -/
import Derived.Test.YtjhmcfhbjfjmkaaRv16
import Derived.Test.YtjhmcfhbjfjmkaaPm16
set_option linter.unusedVariables false
namespace Go.Proofs.Ytjhmcfhbjfjmkaa
open Go.RowKit

theorem run_it16h (c h s : Int) (p u : Bool) (V : World) : (Instr.field 38 (.agg #[.int .i64 c, .int .i64 h, .int .i64 s, .bool p, .bool u]) 1).run Try.prog V = .ok (.int .i64 h) V := by kernel_rfl
theorem run_it16p (c h s : Int) (p u : Bool) (V : World) : (Instr.field 38 (.agg #[.int .i64 c, .int .i64 h, .int .i64 s, .bool p, .bool u]) 3).run Try.prog V = .ok (.bool p) V := by kernel_rfl

set_option maxHeartbeats 4000000 in
set_option maxRecDepth 100000 in
theorem r16Wants (a : Option Addr) (cap : Nat) (l : List It16) (room n : Int) (w : World) (h : IsI w a l) (hl : l.length ≤ 1000) (hR : RisI l) :
    Calls Try.prog 11 #[.slice a l.length cap, .int .i64 room, .int .i64 n] w (WnS w (wn l room n)) := by
  have hcu := pk_ch hR.1 (upL_sub l) n
  have hcd := pk_ch hR.1 (dnL_sub l) n
  have hmu : (pk (upL l) n).ch ≠ 0 → pk (upL l) n ∈ l := fun h => upL_sub l _ (pk_mem n fun e => h (hcu.2 e))
  have hmd : (pk (dnL l) n).ch ≠ 0 → pk (dnL l) n ∈ l := fun h => dnL_sub l _ (pk_mem n fun e => h (hcd.2 e))
  have C := Lib.hid (r16Up a cap l n w h hl)
  have D : ∀ V, KeptIn (· < w.heap.size) w V → Calls Try.prog 15 #[.slice a l.length cap, .int .i64 n] V (InS V (pk (dnL l) n).ch) := fun V hk => r16Down a cap l n V (h.old hk) hl
  have E : ∀ y ∈ l, ∀ V, KeptIn (· < w.heap.size) w V → Calls Try.prog 19 #[.slice a l.length cap, .int .i64 y.ch] V (ItS V y) := fun y hy V hk => r16of a cap l y V (h.old hk) hl hR hy
  obtain ⟨R, hRR⟩ : ∃ R, wn l room n = R := ⟨_, rfl⟩
  have hR2 := hRR
  unfold wn at hR2
  obtain ⟨u, hu⟩ : ∃ u, pk (upL l) n = u := ⟨_, rfl⟩
  obtain ⟨d, hd⟩ : ∃ d, pk (dnL l) n = d := ⟨_, rfl⟩
  obtain ⟨m, hm⟩ : ∃ m, l.length = m := ⟨_, rfl⟩
  rw [hu] at C hmu hR2
  rw [hd] at D hmd hR2
  rw [hm] at C D E ⊢
  rw [hRR]
  have HR := Lib.hid hR2
  have HD := Lib.hid D
  have HEU := Lib.hid (fun h => E u (hmu h))
  have HED := Lib.hid (fun h => E d (hmd h))
  clear h hl hR D E hRR hR2 hu hd hm hcu hcd hmu hmd
  go_enter Try.func11, Try.ntmps11
  go_wp2_with fail
  refine C.out.mono ?_
  rintro e V1 ⟨rfl, k1⟩
  have K1 := Lib.hid k1
  clear C k1
  go_wp2_with fail
  refine (HD.out V1 K1.out).mono ?_
  rintro e V2 ⟨rfl, k2⟩
  have K2 := Lib.hid (K1.out.on16 k2)
  clear HD K1 k2
  by_cases hu : u.ch = 0
  · have z0 : (u.ch == 0) = true := by rw [beq_iff_eq]; exact hu
    have hr : R = (0, 0, false) := by rw [← HR.out, if_pos hu]
    subst hr
    clear HR hu
    go_wp2_with fail
    go_ret3
    exact ⟨rfl, K2.out⟩
  have z0 : (u.ch == 0) = false := by rw [beq_eq_false_iff_ne]; exact hu
  by_cases hrm : 0 < room
  · have hr : R = (u.ch, 1, true) := by rw [← HR.out, if_neg hu, if_pos hrm]
    subst hr
    clear HR hu
    go_wp2_with fail
    go_ret3
    exact ⟨rfl, K2.out⟩
  have z1 : decide (0 < room) = false := decide_eq_false hrm
  have HR2 := Lib.hid (show (if d.ch ≠ 0 ∧ (u.pn = true ∨ lv d.he < lv u.he) then (d.ch, 0, true) else (0, 0, false)) = R by rw [← HR.out, if_neg hu, if_neg hrm])
  have HU := Lib.hid (HEU.out hu)
  clear HR hu HEU
  by_cases hd : d.ch = 0
  · have z3 : (d.ch != 0) = false := by rw [hd]; rfl
    have hr : R = (0, 0, false) := by rw [← HR2.out, if_neg (fun h => h.1 hd)]
    subst hr
    clear HR2 hd
    go_wp2_with fail
    go_ret3
    exact ⟨rfl, K2.out⟩
  have z3 : (d.ch != 0) = true := by rw [bne_iff_ne]; exact hd
  have HDD := Lib.hid (HED.out hd)
  clear HED
  go_wp2_with fail
  refine (HU.out V2 K2.out).mono ?_
  rintro e V3 ⟨rfl, k3⟩
  have K3 := Lib.hid (K2.out.on16 k3)
  have p3 := run_it16p u.ch u.he u.ti u.pn u.bu V3
  unfold itV
  clear K2 k3
  cases hp : u.pn with
  | true =>
    have hr : R = (d.ch, 0, true) := by rw [← HR2.out, if_pos ⟨hd, .inl hp⟩]
    rw [hp] at p3
    subst hr
    clear HR2 hd hp HU HDD
    go_wp2_with fail
    go_ret3
    exact ⟨rfl, K3.out⟩
  | false =>
    rw [hp] at p3
    go_wp2_with fail
    refine (HU.out V3 K3.out).mono ?_
    rintro e V4 ⟨rfl, k4⟩
    have K4 := Lib.hid (K3.out.on16 k4)
    have p4 := run_it16h u.ch u.he u.ti u.pn u.bu V4
    rw [hp] at p4
    unfold itV
    have CU := Lib.hid (r16Level u.he V4)
    clear K3 k4 p3 HU
    go_wp2_with fail
    refine CU.out.mono ?_
    rintro e V4 ⟨rfl, rfl⟩
    clear CU p4
    go_wp2_with fail
    refine (HDD.out V4 K4.out).mono ?_
    rintro e V5 ⟨rfl, k5⟩
    have K5 := Lib.hid (K4.out.on16 k5)
    have p5 := run_it16h d.ch d.he d.ti d.pn d.bu V5
    unfold itV
    have CD := Lib.hid (r16Level d.he V5)
    clear K4 k5 HDD
    obtain ⟨lu, hlu⟩ : ∃ lu, lv u.he = lu := ⟨_, rfl⟩
    obtain ⟨ld, hld⟩ : ∃ ld, lv d.he = ld := ⟨_, rfl⟩
    rw [hlu] at HR2 ⊢
    rw [hld] at CD HR2
    clear hlu hld
    go_wp2_with fail
    refine CD.out.mono ?_
    rintro e V5 ⟨rfl, rfl⟩
    clear CD p5
    by_cases hl : ld < lu
    · have z4 : decide ((ld : Int) < (lu : Int)) = true := decide_eq_true (by omega)
      have z5 : decide (ld < lu) = true := decide_eq_true hl
      have hr : R = (d.ch, 0, true) := by rw [← HR2.out, if_pos ⟨hd, .inr hl⟩]
      subst hr
      clear HR2 hd hl hp
      go_wp2_with fail
      go_ret3
      exact ⟨rfl, K5.out⟩
    · have z4 : decide ((ld : Int) < (lu : Int)) = false := decide_eq_false (by omega)
      have z5 : decide (ld < lu) = false := decide_eq_false hl
      have hr : R = (0, 0, false) := by rw [← HR2.out, if_neg]; rintro ⟨_, h | h⟩; (rw [hp] at h; cases h); exact hl h
      subst hr
      clear HR2 hd hl hp
      go_wp2_with fail
      go_ret3
      exact ⟨rfl, K5.out⟩

end Go.Proofs.Ytjhmcfhbjfjmkaa
