import Derived.Test.YtdbanlifneomgaaPu8L
/- Package tree's keysRise, Build; Get. -/
set_option linter.unusedVariables false
namespace Go.Proofs.Ytdbanlifneomgaa
open Go.RowKit

/-- What Get answers. -/
def GetS (w : World) (z : Stp) (e : Ending) (w' : World) : Prop :=
  e = .returned (.tuple #[.int .u64 ((if z.fr = z.to then 0 else valAt z.ps z.fr : Nat) : Int), .bool (decide (z.fr ≠ z.to)), .int .i64 0]) ∧ KeptIn (· < w.heap.size) w w'

theorem ge_nums (n k : Nat) (h : k + 1 = n) (hn : n ≤ 1000) : wrap64 ((n : Int) - 1) = (k : Int) ∧ (0 : Int) ≤ (k : Int) ∧ (k : Int) < (n : Int) := by
  refine ⟨by unfold wrap64; omega, by omega, by omega⟩

theorem rg_idx (j n : Nat) (h : j < n) (hn : n ≤ 1000) : (j : Int) < (n : Int) ∧ (0 : Int) ≤ (j : Int) ∧ wrap64 ((j : Int) + 1) = ((j + 1 : Nat) : Int) ∧ ¬ ((n : Int) ≤ (j : Int)) := by
  refine ⟨by omega, by omega, by unfold wrap64; omega, by omega⟩
theorem rg_meas (j n : Nat) (h : j < n) : n - ((j : Int) + 1).toNat < n - ((j : Int).toNat) := by omega
theorem rg_succ (j : Nat) : (j : Int) + 1 = ((j + 1 : Nat) : Int) := by omega
theorem rg_ge {j n : Nat} (h : ¬ j < n) : ¬ ((j : Int) < (n : Int)) ∧ (n : Int) ≤ (j : Int) := by omega
theorem row_at {w w' : World} {B n : Nat} {v : Value} {xs : List Value} (h : w.ownsRow B 50 2 v n xs) (hk : KeptIn (· < w.heap.size) w w') : w'.ownsRow B 50 2 v n xs :=
  rowS_block h fun g e => hk.block g (rowS_lt h g e).2

set_option maxRecDepth 100000 in
set_option maxHeartbeats 1000000 in
theorem trGet {w : World} {s room : Nat} {N : List Nd} {D : Nat → Prop} (h : IsSh w s room N D) (root k : Nat) (hk : k < 18446744073709551616) (ws init : List Stp) (z : Stp) (hws : ws = init ++ [z]) (hw : DescW N k root ws) (hl : ws.length ≤ 1000) (hz : z.fr ≠ z.to → z.fr < z.ps.length) :
    Calls Try.prog 20 #[pgV s, .int .i64 (root : Int), .int .u64 (k : Int)] w (GetS w z) := by
  have HD := Lib.hid (trDesc h k root hk ws hw hl)
  obtain ⟨j, hj⟩ : ∃ j, init.length = j := ⟨_, rfl⟩
  have hnl : j + 1 = ws.length := by rw [hws]; simp [hj]
  have hjl : j < ws.length := by omega
  have hzj : ws[j] = z := by simp [hws, ← hj]
  obtain ⟨n1, n2, n3⟩ := ge_nums ws.length j hnl hl
  obtain ⟨n, hn⟩ : ∃ n, ws.length = n := ⟨_, rfl⟩
  obtain ⟨nz, hnz⟩ : ∃ nz, z.ps.length = nz := ⟨_, rfl⟩
  have HF : Hid (∀ V g cap, WayR V w.heap.size (.slice (some ⟨g, 0, none⟩) n cap) ws → ∃ A C, (V.cell? ⟨g, j * 4, none⟩ = some (.int .i64 (z.lv : Int)) ∧ V.cell? ⟨g, j * 4 + 1, none⟩ = some (.slice A nz C) ∧ V.cell? ⟨g, j * 4 + 2, none⟩ = some (.int .i64 (z.fr : Int)) ∧ V.cell? ⟨g, j * 4 + 3, none⟩ = some (.int .i64 (z.to : Int))) ∧ IsPs V A z.ps) := Lib.hid fun V g cap hw => by
    obtain ⟨xs0, hrow, hwc⟩ := hw
    obtain ⟨A, C, hAC⟩ := way_at hwc
    rw [← hn] at hrow
    obtain ⟨hst, _, _⟩ := row_stB hrow fun i hi => ⟨(hAC i hi).1, (hAC i hi).2.1, (hAC i hi).2.2.1, (hAC i hi).2.2.2.1⟩
    have h1 := hst.cells j hjl
    rw [hzj, hnz] at h1
    have h2 := hAC j hjl
    rw [hzj] at h2
    exact ⟨A j, C j, h1, h2.2.2.2.2.1⟩
  rw [hn] at HD n1 n3
  unfold pgV at *
  unfold GetS
  have HZ := Lib.hid (And.intro hz hnz)
  clear h hw hl hnl hjl hzj hn hws hz hnz
  have CE := Lib.hid fun A C V => trEmpty (z.lv : Int) A nz C z.fr z.to V
  unfold stepV at CE
  by_cases he : z.fr = z.to
  · rw [if_pos he, decide_eq_false (by simp [he])]
    have het : decide (z.fr = z.to) = true := decide_eq_true he
    rw [het] at CE
    clear he het
    go_enter Try.func20, Try.ntmps20
    go_wp2_with (first
      | (go_at_call 34; refine HD.out.mono ?_; rintro e V ⟨g, cap, rfl, hway, hg, hkV⟩; obtain ⟨A, C, ⟨c0, c1, c2, c3⟩, hps⟩ := HF.out V g cap hway; have HK := Lib.hid (And.intro hkV hps); clear hway hg hkV hps)
      | (go_at_call 35; refine (CE.out A C _).mono ?_; rintro e V2 ⟨rfl, hk2⟩))
    go_ret3
    exact ⟨rfl, HK.out.1.go (((KeptIn.refl _ V).alloc (fun _ h => h) _).go hk2)⟩
  · rw [if_neg he, decide_eq_true (by simpa using he)]
    have het : decide (z.fr = z.to) = false := decide_eq_false he
    rw [het] at CE
    have hlt : z.fr < nz := by rw [← HZ.out.2]; exact HZ.out.1 he
    have i0 : (0 : Int) ≤ (z.fr : Int) := by omega
    have i1 : (z.fr : Int) < (nz : Int) := by omega
    obtain ⟨vv, hvv⟩ : ∃ vv, valAt z.ps z.fr = vv := ⟨_, rfl⟩
    have HVV := Lib.hid hvv
    rw [hvv]
    have hpos : 0 < z.ps.length := by rw [HZ.out.2]; omega
    have hlt2 : z.fr < z.ps.length := by rw [HZ.out.2]; exact hlt
    have HP := Lib.hid (And.intro hpos hlt2)
    clear he het hvv hpos hlt2
    go_enter Try.func20, Try.ntmps20
    go_wp2_with (first
      | (go_at_call 34; refine HD.out.mono ?_; rintro e V ⟨g, cap, rfl, hway, hg, hkV⟩; obtain ⟨A, C, ⟨c0, c1, c2, c3⟩, hps⟩ := HF.out V g cap hway; obtain ⟨b9, o9, rfl, hb9, hc9⟩ := hps.cells HP.out.1; have x1 := (hc9 z.fr HP.out.2).2; rw [HVV.out] at x1; have HK := Lib.hid (And.intro hkV (And.intro hb9 x1)); clear hway hg hkV hps hc9 hb9)
      | (go_at_call 35; refine (CE.out _ _ _).mono ?_; rintro e V2 ⟨rfl, hk2⟩; have hbx := (hk2.block V.heap.size (by simp)).trans (heap_alloc_new V _); have y1 : V2.cell? ⟨V.heap.size, 1, none⟩ = some (.slice (some ⟨b9, o9, none⟩) nz C) := (cell_of_row _ _ 1 _ _ _ hbx).trans rfl; have y2 : V2.cell? ⟨V.heap.size, 2, none⟩ = some (.int .i64 (z.fr : Int)) := (cell_of_row _ _ 2 _ _ _ hbx).trans rfl; have y3 : V2.cell? ⟨b9, o9 + z.fr * 2 + 1, none⟩ = some (.int .u64 (vv : Int)) := (World.cell?_of_block (a := ⟨b9, o9 + z.fr * 2 + 1, none⟩) ((hk2.block b9 (by have := HK.out.2.1; simp; omega)).trans (Lib.alloc_old V _ b9 HK.out.2.1))).trans HK.out.2.2; have HK2 := Lib.hid hk2; clear hbx hk2))
    go_ret3
    exact ⟨rfl, HK.out.1.go (((KeptIn.refl _ V).alloc (fun _ h => h) _).go HK2.out)⟩


end Go.Proofs.Ytdbanlifneomgaa
