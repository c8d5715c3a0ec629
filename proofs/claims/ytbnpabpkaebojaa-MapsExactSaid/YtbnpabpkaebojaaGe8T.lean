import Derived.Test.YtbnpabpkaebojaaPu8T
/- Package tree's keysRise, Build; Get. -/
set_option linter.unusedVariables false
namespace Go.Proofs.Ytbnpabpkaebojaa
open Go.RowKit

set_option maxRecDepth 100000 in
theorem trKeys (a : Option Addr) (cap : Nat) (ps : Pairs) (w : World) (h : IsPs w a ps) :
    Calls Try.prog 69 #[.slice a ps.length cap] w fun e w' => e = .returned (.bool (rises ps)) ∧ KeptIn (· < w.heap.size) w w' := by
  obtain ⟨n, hn⟩ : ∃ n, ps.length = n := ⟨_, rfl⟩
  obtain ⟨r, hr⟩ : ∃ r, rises ps = r := ⟨_, rfl⟩
  have hm : (n : Int) ≤ 9223372036854775807 := by have := h.len; unfold maxLen at this; omega
  have H := Lib.hid h
  have HN := Lib.hid hn
  have HR := Lib.hid hr
  rw [hn, hr]
  clear h hn hr
  go_enter Try.func69, Try.ntmps69
  go_wp2_with fail
  go_loopw [3] (fun c wr => ∃ (j : Nat) (W : World), W = wr ∧ (j ≤ n ∨ j = 1) ∧ 1 ≤ j ∧ c = .int .i64 j ∧ Hid (KeptIn (· < w.heap.size) w W ∧ ∀ i, i + 1 < j → keyAt ps i < keyAt ps (i + 1))) (fun c _ => n - (RowKit.intOf c).toNat)
  case atStart => exact ⟨1, _, rfl, .inr rfl, Nat.le_refl _, rfl, Lib.hid ⟨.refl _ _, fun i hi => absurd hi (by omega)⟩⟩
  case round =>
    obtain ⟨j, W, rfl, hj, hj1, rfl, HJ⟩ := hrel
    have d0 : (0 : Int) ≤ (j : Int) := by omega
    by_cases hlt : j < n
    · have d1 : (j : Int) < (n : Int) := by omega
      obtain ⟨i, rfl⟩ : ∃ i, j = i + 1 := ⟨j - 1, by omega⟩
      obtain ⟨b, off, rfl, hb, hc⟩ := (H.out.old HJ.out.1).cells (by rw [HN.out]; omega)
      have e1 := (hc i (by rw [HN.out]; omega)).1
      have e2 := (hc (i + 1) (by rw [HN.out]; omega)).1
      have f1 := (H.out.fits.at (i := i) (by rw [HN.out]; omega)).1
      have f2 := (H.out.fits.at (i := i + 1) (by rw [HN.out]; omega)).1
      obtain ⟨x, hx⟩ : ∃ x, keyAt ps i = x := ⟨_, rfl⟩
      obtain ⟨y, hy⟩ : ∃ y, keyAt ps (i + 1) = y := ⟨_, rfl⟩
      have HXY := Lib.hid (And.intro hx hy)
      rw [hx] at e1 f1
      rw [hy] at e2 f2
      have d2 : wrap64 (((i + 1 : Nat) : Int) - 1) = (i : Int) := by unfold wrap64; omega
      have d3 : (0 : Int) ≤ (i : Int) := by omega
      have d4 : (i : Int) < (n : Int) := by omega
      clear hc hx hy hj
      by_cases hxy : (y : Int) ≤ (x : Int)
      · have hf : r = false := by
          rw [← HR.out]
          exact rises_false i (by rw [HN.out]; omega) (by rw [HXY.out.1, HXY.out.2]; omega)
        subst hf
        have HK := Lib.hid HJ.out.1
        clear HJ
        go_wp2_with fail
        go_quiet (fail)
        go_wp2_with fail
        go_ret
        exact ⟨rfl, HK.out.drewN _⟩
      · have hxy' : (x : Int) < (y : Int) := by omega
        have HJ2 : Hid (∀ q, KeptIn (· < w.heap.size) w (W.drewN q) ∧ ∀ k, k + 1 < i + 1 + 1 → keyAt ps k < keyAt ps (k + 1)) := Lib.hid fun q => ⟨HJ.out.1.drewN q, fun k hk => by
          rcases Nat.lt_or_ge (k + 1) (i + 1) with h | h
          · exact HJ.out.2 k h
          · obtain rfl : k = i := by omega
            rw [HXY.out.1, HXY.out.2]; omega⟩
        clear HJ hxy
        go_wp2_with fail
        go_quiet (fail)
        go_wp2_with fail
        go_roundw
        case rel => exact ⟨i + 1 + 1, _, rfl, .inl (by omega), by omega, by go_num, Lib.hid (HJ2.out _)⟩
        case measure => simp [RowKit.intOf]; omega
    · have d1 : (n : Int) ≤ (j : Int) := by omega
      have hf : r = true := by
        rw [← HR.out, rises_iff, HN.out]
        exact fun i hi => HJ.out.2 i (by omega)
      subst hf
      have HK := Lib.hid HJ.out.1
      clear HJ
      go_wp2_with fail
      go_ret
      exact ⟨rfl, HK.out⟩


set_option maxRecDepth 100000 in
theorem trBuildBad {w : World} (s cap : Nat) (a : Option Addr) (l : Pairs) (h : IsPs w a l) (hr : rises l = false) :
    Calls Try.prog 45 #[pgV s, .slice a l.length cap] w fun e w' => e = .returned (.tuple #[.int .i64 0, .int .i64 1]) ∧ KeptIn (· < w.heap.size) w w' := by
  have C := trKeys a cap l w h
  rw [hr] at C
  obtain ⟨n, hn⟩ : ∃ n, l.length = n := ⟨_, rfl⟩
  rw [hn] at C ⊢
  have HC := Lib.hid C
  unfold pgV
  clear C h hr hn
  go_enter Try.func45, Try.ntmps45
  go_wp2_with (go_at_call 69; refine HC.out.mono ?_; rintro e V ⟨rfl, hk⟩; have HK := Lib.hid hk; clear hk)
  go_ret2
  exact ⟨rfl, HK.out⟩

set_option maxRecDepth 100000 in
theorem trBuild {w : World} {s room : Nat} {N : List Nd} {D : Nat → Prop} (h : IsSh w s room N D) (cap : Nat) (a : Option Addr) (l : Pairs) (hl : ListOk2 w s a cap l) (hl2 : l.length ≤ 1000) (hNc : N.length ≤ min room 511) (hr : rises l = true) :
    Calls Try.prog 45 #[pgV s, .slice a l.length cap] w (PageS w s room D (pileM (min room 511) l.length 0 l N)) := by
  have C := trKeys a cap l w hl.1
  rw [hr] at C
  have HP : Hid (∀ V, KeptIn (· < w.heap.size) w V → Calls Try.prog 42 #[pgV s, .int .i64 0, .slice a l.length cap] V (fun e w' => ∃ p er : Nat, e = .returned (.tuple #[.int .i64 (p : Int), .int .i64 (er : Int)]) ∧ PageS w s room D (pileM (min room 511) l.length 0 l N) e w')) := Lib.hid fun V hk => by
    refine (trPile (h.old hk) 0 cap l.length a l (hl.old hk) hl2 (by omega) hNc (Nat.le_refl _)).mono ?_
    intro e w' h1
    have h2 := h1
    obtain ⟨⟨p, er, e1, e2⟩, e3⟩ := h1
    exact ⟨p, er, e1, h2.from hk⟩
  obtain ⟨R, hR⟩ : ∃ R, pileM (min room 511) l.length 0 l N = R := ⟨_, rfl⟩
  rw [hR] at HP ⊢
  obtain ⟨n, hn⟩ : ∃ n, l.length = n := ⟨_, rfl⟩
  rw [hn] at C HP ⊢
  have HC := Lib.hid C
  unfold pgV at *
  clear C h hr hn hl hl2 hNc hR
  go_enter Try.func45, Try.ntmps45
  go_wp2_with (go_at_call 69; refine HC.out.mono ?_; rintro e V ⟨rfl, hk⟩; have HK := Lib.hid (HP.out V hk); clear hk)
  go_wp2_with (go_at_call 42; refine HK.out.mono ?_; rintro e V2 ⟨p, er, rfl, hS⟩; have HS := Lib.hid hS; clear hS)
  go_ret2
  exact HS.out

/-- What Get answers. -/
def GetS (w : World) (z : Stp) (e : Ending) (w' : World) : Prop :=
  e = .returned (.tuple #[.int .u64 ((if z.fr = z.to then 0 else valAt z.ps z.fr : Nat) : Int), .bool (decide (z.fr ≠ z.to)), .int .i64 0]) ∧ KeptIn (· < w.heap.size) w w'

theorem ge_nums (n k : Nat) (h : k + 1 = n) (hn : n ≤ 1000) : wrap64 ((n : Int) - 1) = (k : Int) ∧ (0 : Int) ≤ (k : Int) ∧ (k : Int) < (n : Int) := by
  refine ⟨by unfold wrap64; omega, by omega, by omega⟩

theorem rg_idx (j n : Nat) (h : j < n) (hn : n ≤ 1000) : (j : Int) < (n : Int) ∧ (0 : Int) ≤ (j : Int) ∧ wrap64 ((j : Int) + 1) = ((j + 1 : Nat) : Int) ∧ ¬ ((n : Int) ≤ (j : Int)) := by
  refine ⟨by omega, by omega, by unfold wrap64; omega, by omega⟩
theorem rg_meas (j n : Nat) (h : j < n) : n - ((j : Int) + 1).toNat < n - ((j : Int).toNat) := by omega
theorem rg_succ (j : Nat) : (j : Int) + 1 = ((j + 1 : Nat) : Int) := by omega
theorem rg_ge {j n : Nat} (h : ¬ j < n) : ¬ ((j : Int) < (n : Int)) ∧ (n : Int) ≤ (j : Int) := by omega
theorem row_at {w w' : World} {B n : Nat} {v : Value} {xs : List Value} (h : w.ownsRow B 77 2 v n xs) (hk : KeptIn (· < w.heap.size) w w') : w'.ownsRow B 77 2 v n xs :=
  rowS_block h fun g e => hk.block g (rowS_lt h g e).2

set_option maxRecDepth 100000 in
set_option maxHeartbeats 1000000 in
theorem trGet {w : World} {s room : Nat} {N : List Nd} {D : Nat → Prop} (h : IsSh w s room N D) (root k : Nat) (hk : k < 18446744073709551616) (ws init : List Stp) (z : Stp) (hws : ws = init ++ [z]) (hw : DescW N k root ws) (hl : ws.length ≤ 1000) (hz : z.fr ≠ z.to → z.fr < z.ps.length) :
    Calls Try.prog 48 #[pgV s, .int .i64 (root : Int), .int .u64 (k : Int)] w (GetS w z) := by
  have HD := Lib.hid (trDesc h k root hk ws hw hl)
  obtain ⟨j, hj⟩ : ∃ j, init.length = j := ⟨_, rfl⟩
  have hnl : j + 1 = ws.length := by rw [hws]; simp [hj]
  have hjl : j < ws.length := by omega
  have hzj : ws[j] = z := by simp [hws, ← hj]
  obtain ⟨n1, n2, n3⟩ := ge_nums ws.length j hnl hl
  obtain ⟨n, hn⟩ : ∃ n, ws.length = n := ⟨_, rfl⟩
  obtain ⟨nz, hnz⟩ : ∃ nz, z.ps.length = nz := ⟨_, rfl⟩
  have HF : Hid (∀ V g cap, WayR V w.heap.size (.slice (some ⟨g, 0, none⟩) n cap) ws → ∃ A C, (V.cell? ⟨g, j * 4, none⟩ = some (.int .i64 (z.lv : Int)) ∧ V.cell? ⟨g, j * 4 + 1, none⟩ = some (.slice A nz C) ∧ V.cell? ⟨g, j * 4 + 2, none⟩ = some (.int .i64 (z.fr : Int)) ∧ V.cell? ⟨g, j * 4 + 3, none⟩ = some (.int .i64 (z.to : Int))) ∧ IsPs V A z.ps) := Lib.hid fun V g cap hw => by
    obtain ⟨xs0, hrow, hwc⟩ := hw
    obtain ⟨A, C, hAC⟩ := way_at hwc
    rw [← hn] at hrow
    obtain ⟨hst, _, _⟩ := row_stB hrow fun i hi => ⟨(hAC i hi).1, (hAC i hi).2.1, (hAC i hi).2.2.1, (hAC i hi).2.2.2.1⟩
    have h1 := hst.cells j hjl
    rw [hzj, hnz] at h1
    have h2 := hAC j hjl
    rw [hzj] at h2
    exact ⟨A j, C j, h1, h2.2.2.2.2.1⟩
  rw [hn] at HD n1 n3
  unfold pgV at *
  unfold GetS
  have HZ := Lib.hid (And.intro hz hnz)
  clear h hw hl hnl hjl hzj hn hws hz hnz
  have CE := Lib.hid fun A C V => trEmpty (z.lv : Int) A nz C z.fr z.to V
  unfold stepV at CE
  by_cases he : z.fr = z.to
  · rw [if_pos he, decide_eq_false (by simp [he])]
    have het : decide (z.fr = z.to) = true := decide_eq_true he
    rw [het] at CE
    clear he het
    go_enter Try.func48, Try.ntmps48
    go_wp2_with (first
      | (go_at_call 36; refine HD.out.mono ?_; rintro e V ⟨g, cap, rfl, hway, hg, hkV⟩; obtain ⟨A, C, ⟨c0, c1, c2, c3⟩, hps⟩ := HF.out V g cap hway; have HK := Lib.hid (And.intro hkV hps); clear hway hg hkV hps)
      | (go_at_call 37; refine (CE.out A C _).mono ?_; rintro e V2 ⟨rfl, hk2⟩))
    go_ret3
    exact ⟨rfl, HK.out.1.go (((KeptIn.refl _ V).alloc (fun _ h => h) _).go hk2)⟩
  · rw [if_neg he, decide_eq_true (by simpa using he)]
    have het : decide (z.fr = z.to) = false := decide_eq_false he
    rw [het] at CE
    have hlt : z.fr < nz := by rw [← HZ.out.2]; exact HZ.out.1 he
    have i0 : (0 : Int) ≤ (z.fr : Int) := by omega
    have i1 : (z.fr : Int) < (nz : Int) := by omega
    obtain ⟨vv, hvv⟩ : ∃ vv, valAt z.ps z.fr = vv := ⟨_, rfl⟩
    have HVV := Lib.hid hvv
    rw [hvv]
    have hpos : 0 < z.ps.length := by rw [HZ.out.2]; omega
    have hlt2 : z.fr < z.ps.length := by rw [HZ.out.2]; exact hlt
    have HP := Lib.hid (And.intro hpos hlt2)
    clear he het hvv hpos hlt2
    go_enter Try.func48, Try.ntmps48
    go_wp2_with (first
      | (go_at_call 36; refine HD.out.mono ?_; rintro e V ⟨g, cap, rfl, hway, hg, hkV⟩; obtain ⟨A, C, ⟨c0, c1, c2, c3⟩, hps⟩ := HF.out V g cap hway; obtain ⟨b9, o9, rfl, hb9, hc9⟩ := hps.cells HP.out.1; have x1 := (hc9 z.fr HP.out.2).2; rw [HVV.out] at x1; have HK := Lib.hid (And.intro hkV (And.intro hb9 x1)); clear hway hg hkV hps hc9 hb9)
      | (go_at_call 37; refine (CE.out _ _ _).mono ?_; rintro e V2 ⟨rfl, hk2⟩; have hbx := (hk2.block V.heap.size (by simp)).trans (heap_alloc_new V _); have y1 : V2.cell? ⟨V.heap.size, 1, none⟩ = some (.slice (some ⟨b9, o9, none⟩) nz C) := (cell_of_row _ _ 1 _ _ _ hbx).trans rfl; have y2 : V2.cell? ⟨V.heap.size, 2, none⟩ = some (.int .i64 (z.fr : Int)) := (cell_of_row _ _ 2 _ _ _ hbx).trans rfl; have y3 : V2.cell? ⟨b9, o9 + z.fr * 2 + 1, none⟩ = some (.int .u64 (vv : Int)) := (World.cell?_of_block (a := ⟨b9, o9 + z.fr * 2 + 1, none⟩) ((hk2.block b9 (by have := HK.out.2.1; simp; omega)).trans (Lib.alloc_old V _ b9 HK.out.2.1))).trans HK.out.2.2; have HK2 := Lib.hid hk2; clear hbx hk2))
    go_ret3
    exact ⟨rfl, HK.out.1.go (((KeptIn.refl _ V).alloc (fun _ h => h) _).go HK2.out)⟩


end Go.Proofs.Ytbnpabpkaebojaa
