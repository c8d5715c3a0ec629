/- Who is demoted: down; and Up, Down, Wants. -/
import Derived.Test.YtjhmcfhbjfjmkaaUq16
set_option linter.unusedVariables false
namespace Go.Proofs.Ytjhmcfhbjfjmkaa
open Go.RowKit

attribute [local go_sem high] run_min2f run_max2f


set_option maxHeartbeats 2000000 in
set_option maxRecDepth 100000 in
theorem rkdown (a : Option Addr) (cap : Nat) (l : List It16) (n : Int) (w : World) (h : IsI w a l) (hl : l.length ≤ 1000) :
    Calls Try.prog 18 #[.slice a l.length cap, .int .i64 n] w (ItS w (pk (dnL l) n)) := by
  have q0 := Uq.start w
  obtain ⟨W, hW⟩ : ∃ W, w.alloc (.cells #[.int .i64 0, .int .i64 0, .int .i64 0, .bool false, .bool false] 35) = W := ⟨_, rfl⟩
  obtain ⟨y, hy⟩ : ∃ y, w.heap.size = y := ⟨_, rfl⟩
  rw [hW, hy] at q0
  have hW0 := h.old (by rw [← hW]; exact keptNew w _ : KeptIn (· < w.heap.size) w W)
  have C := Lib.hid (rkThose fast16 29 #[] (.inr (.inr (.inl ⟨rfl, rfl⟩))) a cap l W hW0 hl fun x _ V _ => rkFast x V)
  have HG := Lib.hid h.good
  have HW := Lib.hid hW
  have HY := Lib.hid hy
  have HQ := Lib.hid q0
  have HL := Lib.hid hl
  obtain ⟨m, hm⟩ : ∃ m, l.length = m := ⟨_, rfl⟩
  rw [hm] at C ⊢
  obtain ⟨R, hR⟩ : ∃ R, pk (dnL l) n = R := ⟨_, rfl⟩
  have HR := Lib.hid hR
  rw [hR]
  clear hW hy q0 hW0 h hl hm hR
  go_enter Try.func18, Try.ntmps18
  go_wp2_with fail
  rw [HW.out]
  simp only [HY.out]
  refine C.out.mono ?_
  rintro e V2 ⟨a1, c1, rfl, hr1, hk1⟩
  have hg1 : ∀ x ∈ l.filter fast16, GdI x := fun x hx => HG.out x (List.mem_filter.1 hx).1
  have is1 := hr1.is hg1
  have ll1 : (l.filter fast16).length ≤ 1000 := Nat.le_trans (List.length_filter_le _ _) HL.out
  have HQ2 := Lib.hid (HQ.out.go hk1)
  have HIc := Lib.hid is1
  have HCl := Lib.hid (And.intro hg1 ll1)
  have HRR := Lib.hid (show R = pk (atL (leastL (l.filter fast16)) (l.filter fast16)) n by rw [← HR.out]; rfl)
  obtain ⟨can, hcan⟩ : ∃ can, l.filter fast16 = can := ⟨_, rfl⟩
  rw [hcan] at HIc HCl HRR ⊢
  obtain ⟨m1, hm1⟩ : ∃ m1, can.length = m1 := ⟨_, rfl⟩
  rw [hm1]
  have HM := Lib.hid hm1
  have hmI : (m1 : Int) ≤ 1000 := by have := HCl.out.2; omega
  clear hr1 hk1 hg1 is1 ll1 C hcan hm1 HQ HR HG HL HW HY
  go_wp2_with fail
  go_loopw [6, 13] (fun o i wr => ∃ (j M : Nat) (W : World), W = wr ∧ j ≤ m1 ∧ i = .int .i64 (j : Int) ∧ o = .int .i64 (M : Int) ∧ Hid ((can.take j).foldl (fun m x => min m (lv x.he)) 8 = M ∧ KeptIn (· < V2.heap.size) V2 W)) (fun _ i _ => m1 - (intOf i).toNat)
  case atStart => exact ⟨0, 8, _, rfl, Nat.zero_le _, rfl, rfl, Lib.hid ⟨rfl, KeptIn.refl _ _⟩⟩
  case round =>
    obtain ⟨j, M, W3, rfl, hj, rfl, rfl, HJ⟩ := hrel
    by_cases hlt : j < m1
    · have d0 : (0 : Int) ≤ (j : Int) := by omega
      have d1 : (j : Int) < (m1 : Int) := by omega
      have hjl : j < can.length := by rw [HM.out]; exact hlt
      obtain ⟨b, off, rfl, hb, hc⟩ := (HIc.out.old HJ.out.2).cells (by omega)
      have hcj := hc j hjl
      have hgx := HCl.out.1 can[j] (List.getElem_mem hjl)
      have hT := take_snoc16 can j hjl
      obtain ⟨x, hx⟩ : ∃ x, can[j] = x := ⟨_, rfl⟩
      rw [hx] at hcj hgx hT
      obtain ⟨c1, c2, c3, c4, c5⟩ := hcj
      have hL := rkLevel x.he hgx.2.1
      have hF : (can.take (j + 1)).foldl (fun m x => min m (lv x.he)) 8 = min M (lv x.he) := by rw [hT, List.foldl_append, HJ.out.1]; rfl
      obtain ⟨v, hv⟩ : ∃ v, lv x.he = v := ⟨_, rfl⟩
      rw [hv] at hF hL
      obtain ⟨M2, hM2⟩ : ∃ M2, min M v = M2 := ⟨_, rfl⟩
      have hmx : min (M : Int) (v : Int) = (M2 : Int) := by omega
      rw [hM2] at hF
      have HJ2 := Lib.hid (And.intro hF (HJ.out.2.on16 (keptNew W3 (.cells #[.int .i64 x.ch, .int .i64 x.he, .int .i64 x.ti, .bool x.pn, .bool x.bu] 35))))
      have HLv := Lib.hid hL
      clear hc hb hjl hx hgx hT hL hF hv hM2 HJ
      go_wp2_with fail
      refine (HLv.out _).mono ?_
      rintro e _ ⟨rfl, rfl⟩
      clear HLv
      go_wp2_with fail
      go_roundw
      case rel => exact ⟨j + 1, M2, _, rfl, by omega, by go_num, rfl, HJ2⟩
      case measure => simp only [intOf]; omega
    · have d1 : ¬ (j : Int) < (m1 : Int) := by omega
      obtain rfl : j = m1 := by omega
      have hM : leastL can = M := by rw [← HJ.out.1, List.take_of_length_le (by rw [HM.out]; exact Nat.le_refl _)]; rfl
      have C4 := rkOfLevel M a1 c1 can W3 (HIc.out.old HJ.out.2) HCl.out.2
      rw [HM.out] at C4
      have HRM := Lib.hid (show R = pk (atL M can) n by rw [HRR.out, hM])
      have HQ3 := Lib.hid (HQ2.out.go HJ.out.2)
      have HC4 := Lib.hid C4
      clear C4 hM HJ HRR HQ2 HIc
      go_wp2_with fail
      refine HC4.out.mono ?_
      rintro e V4 ⟨a3, c3, rfl, hr3, hk3⟩
      have hg3 : ∀ x ∈ atL M can, GdI x := fun x hx => HCl.out.1 x (atL_sub _ _ x hx)
      have is3 := hr3.is hg3
      have ll3 : (atL M can).length ≤ 1000 := Nat.le_trans (List.length_filter_le _ _) HCl.out.2
      have CP := Lib.hid (rkPicked a3 c3 (atL M can) n V4 is3 ll3)
      have HQ4 := Lib.hid (HQ3.out.go hk3)
      rw [← HRM.out] at CP
      obtain ⟨m3, hm3⟩ : ∃ m3, (atL M can).length = m3 := ⟨_, rfl⟩
      rw [hm3] at CP ⊢
      clear hr3 hk3 hg3 is3 ll3 hm3 HC4 HQ3 HRM HCl
      go_wp2_with fail
      refine CP.out.mono ?_
      rintro e V ⟨rfl, hk⟩
      have HQP := Lib.hid (HQ4.out.go hk)
      have b0 := HQP.out.box
      have f0 := b0.free 0
      have f1 := b0.free 1
      have f2 := b0.free 2
      have f3 := b0.free 3
      have f4 := b0.free 4
      obtain ⟨m1, m2, m3, m4, m5⟩ := b0.at
      simp only [Nat.zero_add] at m2 m3 m4 m5
      have HE := Lib.hid (And.intro (b0.store R) (HQP.out.kept.st16 (y := y) (Nat.not_lt.2 HQP.out.ge) R))
      unfold st16 at HE
      unfold itV
      clear CP hk b0
      go_wp2_with fail
      refine bodyPost_ret (results_item rfl _ _ _ R rfl HE.out.1) rfl ?_
      exact ⟨rfl, HE.out.2⟩

theorem run_itch (c h s : Int) (p u : Bool) (V : World) : (Instr.field 35 (.agg #[.int .i64 c, .int .i64 h, .int .i64 s, .bool p, .bool u]) 0).run Try.prog V = .ok (.int .i64 c) V := by kernel_rfl
/-- Up, Down. -/
def InS (w : World) (r : Int) (e : Ending) (w' : World) : Prop := e = .returned (.int .i64 r) ∧ KeptIn (· < w.heap.size) w w'
set_option maxRecDepth 100000 in
theorem rkUp (a : Option Addr) (cap : Nat) (l : List It16) (n : Int) (w : World) (h : IsI w a l) (hl : l.length ≤ 1000) :
    Calls Try.prog 12 #[.slice a l.length cap, .int .i64 n] w (InS w (pk (upL l) n).ch) := by
  have C := Lib.hid (rkup a cap l n w h hl)
  obtain ⟨R, hR⟩ : ∃ R, pk (upL l) n = R := ⟨_, rfl⟩
  obtain ⟨m, hm⟩ : ∃ m, l.length = m := ⟨_, rfl⟩
  rw [hm, hR] at C
  rw [hm, hR]
  clear h hl hR hm
  go_enter Try.func12, Try.ntmps12
  go_wp2_with fail
  refine C.out.mono ?_
  rintro e V ⟨rfl, hk⟩
  have HK := Lib.hid hk
  have hf := run_itch R.ch R.he R.ti R.pn R.bu V
  unfold itV
  clear C hk
  go_wp2_with fail
  go_ret
  exact ⟨rfl, HK.out⟩
set_option maxRecDepth 100000 in
theorem rkDown (a : Option Addr) (cap : Nat) (l : List It16) (n : Int) (w : World) (h : IsI w a l) (hl : l.length ≤ 1000) :
    Calls Try.prog 14 #[.slice a l.length cap, .int .i64 n] w (InS w (pk (dnL l) n).ch) := by
  have C := Lib.hid (rkdown a cap l n w h hl)
  obtain ⟨R, hR⟩ : ∃ R, pk (dnL l) n = R := ⟨_, rfl⟩
  obtain ⟨m, hm⟩ : ∃ m, l.length = m := ⟨_, rfl⟩
  rw [hm, hR] at C
  rw [hm, hR]
  clear h hl hR hm
  go_enter Try.func14, Try.ntmps14
  go_wp2_with fail
  refine C.out.mono ?_
  rintro e V ⟨rfl, hk⟩
  have HK := Lib.hid hk
  have hf := run_itch R.ch R.he R.ti R.pn R.bu V
  unfold itV
  clear C hk
  go_wp2_with fail
  go_ret
  exact ⟨rfl, HK.out⟩

end Go.Proofs.Ytjhmcfhbjfjmkaa
