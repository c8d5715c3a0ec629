import Derived.Test.YtjollbaohopmjaaBe9W
import Derived.Test.YtjollbaohopmjaaRz9W
/- A page that isn't there: package tree's Reach and Check over a memo, reach's checkAll and Refs: ErrForm. -/
set_option linter.unusedVariables false
namespace Go.Proofs.Ytjollbaohopmjaa
open Go.RowKit

set_option maxRecDepth 100000 in
set_option maxHeartbeats 4000000 in
theorem trReachBad {N : List Nd} {w : World} {s room x c : Nat} {D : Nat → Prop} {M : Int → Option (Option Lf9)} (h : IsSh w s room N D) (hD : ∀ k, D k → k ≠ x) (hm : IsMm w x c N M) (root : Nat) (h0 : root ≠ 0) (hrw : (Lit.int .i64 (root : Int)).wf = true) (hb : (N.length : Int) < (root : Int)) :
    Calls Try.prog 45 #[mmI s x, .int .i64 (root : Int)] w fun e w' => e = .returned (.tuple #[.slice none 0 0, .int .i64 3]) ∧ KeptIn (fun j => j < w.heap.size ∧ j ≠ x) w w' := by
  have p0 : ((root : Int) == 0) = false := by rw [beq_eq_false_iff_ne]; omega
  have p1 : ¬ ((root : Int) = 0) := by omega
  obtain ⟨W, hW⟩ : ∃ W, w.alloc (.cells #[mmI s x, .slice none 0 0, .int .i64 0] 126) = W := ⟨_, rfl⟩
  have hkW : KeptIn (· < w.heap.size) w W := by rw [← hW]; exact (KeptIn.refl _ w).alloc (fun _ h => h) _
  have hbx : W.heap[w.heap.size]? = some (.cells #[mmI s x, .slice none 0 0, .int .i64 0] 126 (0, 0)) := by rw [← hW]; exact heap_alloc_new w _
  have hWs : W.heap.size = w.heap.size + 1 := by rw [← hW]; simp
  obtain ⟨S, hSe⟩ : ∃ S, w.heap.size = S := ⟨_, rfl⟩
  obtain ⟨B0, hB0⟩ : ∃ B0, W.heap.size = B0 := ⟨_, rfl⟩
  have hSB : S < B0 := by omega
  have HM : Hid (∀ V, KeptIn (· < W.heap.size) W V → Calls Try.prog 59 #[.pointer (some ⟨S, 0, none⟩), leadV root true 0 0 18446744073709551615] V (SoX V S B0 x)) := Lib.hid fun V hk => by
    have hsv0 : SvU W S (mmI s x) B0 (.slice none 0 0) [] := ⟨by rw [← hSe]; exact hbx, ⟨rfl, .inl ⟨rfl, rfl⟩⟩, hSB, Nat.le_of_eq hB0.symm⟩
    exact trSoundBad ((h.old hkW).old hk) (fun k hk => ⟨by rw [← hSe]; exact h.lt k hk, hD k hk⟩) (hsv0.old hk) ((hm.old hkW).old hk) hrw (.inr hb) (by simp) (by simp)
  have HE : Hid (∀ V V2, KeptIn (· < W.heap.size) W V → KeptIn (SdZ V S B0 x) V V2 → KeptIn (fun j => j < w.heap.size ∧ j ≠ x) w V2) := Lib.hid fun V V2 h1 h3 => ((hkW.go h1).mono fun j h => h.1).trans (h3.mono fun k hk2 => by
    have hz : w.heap.size ≤ V.heap.size := (hkW.go h1).size
    exact ⟨⟨by have := hk2.1; omega, by have := hk2.1; omega, .inl (by have := hk2.1; omega)⟩, hk2.2⟩)
  have HT := Lib.hid fun V => trToRoot root V
  have HW := Lib.hid hW
  have HSE := Lib.hid hSe
  clear hW hSe h hkW hbx hWs hB0 hm hD hrw hb h0
  unfold mmI mmV pgV leadV at *
  go_enter Try.func45, Try.ntmps45
  go_wp2_with (first
    | (go_at_call 34; rw [HW.out, HSE.out]; refine (HT.out _).mono ?_; rintro e V ⟨rfl, hk⟩; have HC := Lib.hid (HM.out V hk); have HK := Lib.hid hk; clear hk)
    | (go_at_call 59; refine HC.out.mono ?_; rintro e V2 ⟨rfl, hk4⟩; have HR := Lib.hid (HE.out V V2 HK.out hk4); clear hk4))
  go_ret2
  exact ⟨rfl, HR.out⟩

theorem trCheckBad {N : List Nd} {w : World} {s room x c : Nat} {D : Nat → Prop} {M : Int → Option (Option Lf9)} (h : IsSh w s room N D) (hD : ∀ k, D k → k ≠ x) (hm : IsMm w x c N M) (root : Nat) (h0 : root ≠ 0) (hrw : (Lit.int .i64 (root : Int)).wf = true) (hb : (N.length : Int) < (root : Int)) :
    Calls Try.prog 28 #[mmI s x, .int .i64 (root : Int)] w fun e w' => e = .returned (.int .i64 3) ∧ KeptIn (fun j => j < w.heap.size ∧ j ≠ x) w w' := by
  have HC := Lib.hid (trReachBad h hD hm root h0 hrw hb)
  unfold mmI mmV pgV at *
  clear h hm hD h0 hrw hb
  go_enter Try.func28, Try.ntmps28
  go_wp2_with (go_at_call 45; refine HC.out.mono ?_; rintro e V ⟨rfl, hk⟩; have HR := Lib.hid hk; clear hk)
  go_ret
  exact ⟨rfl, HR.out⟩

set_option maxRecDepth 100000 in
set_option maxHeartbeats 2000000 in
theorem ckBad {N : List Nd} {w : World} {s room x c cap : Nat} {D : Nat → Prop} {M : Int → Option (Option Lf9)} {a : Option Addr} {rs : List Int} (h : IsSh w s room N D) (hD : ∀ k, D k → k ≠ x) (hm : IsMm w x c N M) (hr : IntsL w a rs) (hrl : rs.length ≤ 1000) (root : Nat) (h1 : rs[0]? = some (root : Int)) (h0 : root ≠ 0) (hrw : (Lit.int .i64 (root : Int)).wf = true) (hb : (N.length : Int) < (root : Int)) :
    Calls Try.prog 14 #[mmV s x, .slice a rs.length cap] w fun e w' => e = .returned (.int .i64 3) ∧ KeptIn (fun k => k < w.heap.size ∧ k ≠ x) w w' := by
  obtain ⟨W, hW⟩ : ∃ W, (w.alloc (.cells #[pgV s, .map (some x)] 60)).alloc (.map #[] 0) = W := ⟨_, rfl⟩
  have hk : KeptIn (· < w.heap.size) w W := by rw [← hW]; exact ((KeptIn.refl _ w).alloc (fun _ h => h) _).alloc (fun _ h => h) _
  obtain ⟨B, hB⟩ : ∃ B, w.heap.size = B := ⟨_, rfl⟩
  have b0 : W.heap[B]? = some (.cells #[pgV s, .map (some x)] 60 (0, 0)) := by
    rw [← hW, ← hB, Lib.alloc_old _ _ _ (by simp)]
    exact heap_alloc_new w _
  have hT : MpAt unV (B + 1) 0 (fun _ => none) W := by
    have := MpAt.new (V := unV) (w.alloc (.cells #[pgV s, .map (some x)] 60))
    rw [World.size_alloc, hB, hW] at this
    exact this
  obtain ⟨r, hre⟩ : ∃ r : Int, (root : Int) = r := ⟨_, rfl⟩
  have hlt : 0 < rs.length := by
    rcases Nat.eq_zero_or_pos rs.length with e | e
    · rw [List.getElem?_eq_none (by omega)] at h1; cases h1
    · exact e
  have hlk := (hT.look unV_inj Try.underlying88 () (zeroEmpty9 W) r (by rw [← hre]; exact hrw)).1
  obtain ⟨gk, off, rfl, hgl, hcl⟩ := hr.cells hlt
  have e1 : W.cell? ⟨gk, off, none⟩ = some (.int .i64 r) := by
    have e0 := hcl 0 hlt
    have hrd : rs.getD 0 0 = r := by rw [List.getD_eq_getElem?_getD, h1]; exact hre
    rw [hrd] at e0
    exact (World.cell?_of_block (a := ⟨gk, off, none⟩) (hk.block gk hgl)).trans e0
  have hka : KeptIn (· < W.heap.size) W (W.alloc (.cells #[] 89)) := (KeptIn.refl _ W).alloc (fun _ h => h) _
  have hTa := hT.kept hka hT.lt
  obtain ⟨V2, hrun2, hT2, hk2, hsz2⟩ := hTa.store unV_inj Try.underlying88 (by unfold maxLen; omega) r (by rw [← hre]; exact hrw) ()
  have hyx : B + 1 ≠ x := by have := hm.lt; omega
  have hDy : ¬ D (B + 1) := fun e => by have := h.lt _ e; omega
  have hBW : B < W.heap.size := (Array.getElem?_eq_some_iff.1 b0).1
  have hB2 := (hk2.block B (by show B ≠ B + 1; omega)).trans ((hka.block B hBW).trans b0)
  have hmm2 := ((hm.old hk).old hka).map2 hTa hyx hk2
  have hsh2 := ((h.old hk).old hka).kept (hk2.mono fun k hk e => hDy (e ▸ hk))
  have C := trCheckBad hsh2 hD hmm2 root h0 hrw hb
  rw [hre] at C
  have q0 : V2.cell? ⟨B, 0, none⟩ = some (pgV s) := by simp [World.cell?, hB2]
  have q1 : V2.cell? ⟨B, 1, none⟩ = some (.map (some x)) := by simp [World.cell?, hB2]
  have hkf : ∀ V3, KeptIn (fun j => j < V2.heap.size ∧ j ≠ x) V2 V3 → KeptIn (fun k => k < w.heap.size ∧ k ≠ x) w V3 := fun V3 h3 => by
    have h4 : KeptIn (fun k => k < w.heap.size ∧ k ≠ x) w (W.alloc (.cells #[] 89)) := (hk.go hka).mono fun k h => h.1
    exact (h4.trans (hk2.mono fun k h => by show k ≠ B + 1; have := h.1; omega)).trans (h3.mono fun k h => ⟨Nat.lt_of_lt_of_le h.1 (Nat.le_trans h4.size hk2.size), h.2⟩)
  have HC := Lib.hid C
  have HKF := Lib.hid hkf
  have HW := Lib.hid (And.intro hW hB)
  obtain ⟨n, hn⟩ : ∃ n, rs.length = n := ⟨_, rfl⟩
  rw [hn] at hlt ⊢
  have t1 : (0 : Int) < (n : Int) := by omega
  unfold unV at hlk hrun2
  unfold mmI mmV pgV at HC
  unfold mmV pgV at *
  have HR2 := Lib.hid hrun2
  clear h hD hm hr hrl h1 h0 hrw hb hW hk b0 hB hT hre hgl hcl hka hTa hT2 hk2 hsz2 hyx hDy hBW hB2 hmm2 hsh2 C hkf hn hrun2
  go_enter Try.func14, Try.ntmps14
  have hmm := @run_makeMap Try.prog
  go_upto_region 3 with fail
  clear hmm
  rw [HW.out.1]
  try simp only [World.size_alloc]
  try rw [HW.out.2]
  go_wp2_with fail
  have hrun2 := HR2.out
  go_loopw [5, 15] (fun e i wr => wr = W ∧ e = .int .i64 0 ∧ i = .int .i64 0) (fun _ _ _ => 0)
  case atStart => exact ⟨rfl, rfl, rfl⟩
  case round =>
    obtain ⟨rfl, rfl, rfl⟩ := hrel
    go_wp2_with (go_at_call 28; refine HC.out.mono ?_; rintro e V3 ⟨rfl, hk3⟩; have HV3 := Lib.hid (HKF.out V3 hk3); clear hk3)
    go_ret
    exact ⟨rfl, HV3.out⟩

set_option maxRecDepth 100000 in
set_option maxHeartbeats 4000000 in
theorem rcBad {N : List Nd} {w : World} {s room cap : Nat} {D : Nat → Prop} {a : Option Addr} {rs : List Int} (h : IsSh w s room N D) (hr : IntsL w a rs) (hrl : rs.length ≤ 1000) (root : Nat) (h1 : rs[0]? = some (root : Int)) (h0 : root ≠ 0) (hrw : (Lit.int .i64 (root : Int)).wf = true) (hb : (N.length : Int) < (root : Int)) :
    Calls Try.prog 7 #[pgV s, .slice a rs.length cap] w fun e w' => e = .returned (.tuple #[.slice none 0 0, .int .i64 3]) ∧ KeptIn (· < w.heap.size) w w' := by
  obtain ⟨B, hB⟩ : ∃ B, w.heap.size = B := ⟨_, rfl⟩
  obtain ⟨W, hW⟩ : ∃ W, (w.alloc (.map #[] 0)).alloc (.cells #[pgV s, .map (some B)] 60) = W := ⟨_, rfl⟩
  have hk : KeptIn (· < w.heap.size) w W := by rw [← hW]; exact ((KeptIn.refl _ w).alloc (fun _ h => h) _).alloc (fun _ h => h) _
  have hbox : W.heap[B + 1]? = some (.cells #[pgV s, .map (some B)] 60 (0, 0)) := by
    have := heap_alloc_new (w.alloc (.map #[] 0)) (.cells #[pgV s, .map (some B)] 60)
    rw [World.size_alloc, hB, hW] at this
    exact this
  have hmp : MpAt lfV9 B 0 (fun _ => none) W := by
    have h1 := MpAt.new (V := lfV9) w
    rw [hB] at h1
    exact h1.block (by rw [← hW]; exact Lib.alloc_old _ _ _ (by simp [hB]))
  have hmm : IsMm W B 0 N (fun _ => none) := ⟨hmp, fun p z hz => by cases hz⟩
  have hDlt : ∀ k, D k → k ≠ B := fun k hk' => by have := h.lt k hk'; omega
  have HCK := Lib.hid (ckBad (cap := cap) (h.old hk) hDlt hmm (intsL_keep hr hk fun k h => h) hrl root h1 h0 hrw hb)
  have HX := Lib.hid (And.intro hk hbox)
  have HW := Lib.hid (And.intro hW hB)
  obtain ⟨n, hn⟩ : ∃ n, rs.length = n := ⟨_, rfl⟩
  rw [hn] at HCK ⊢
  unfold mmV pgV at *
  clear h hr hW hk hbox hmp hmm hDlt hB hn hrl h1 h0 hrw hb
  go_enter Try.func7, Try.ntmps7
  have hmk := @run_makeMap Try.prog
  go_upto_region 2 with fail
  clear hmk
  simp only [HW.out.2]
  rw [HW.out.1]
  have c0 : W.cell? ⟨B + 1, 0, none⟩ = some (.iface 28 (.pointer (some ⟨s, 0, none⟩))) := by simp [World.cell?, HX.out.2]
  have c1 : W.cell? ⟨B + 1, 1, none⟩ = some (.map (some B)) := by simp [World.cell?, HX.out.2]
  go_wp2_with fail
  refine HCK.out.mono ?_
  rintro e V1 ⟨rfl, h4⟩
  have HE : Hid (KeptIn (· < w.heap.size) w V1) := Lib.hid (HX.out.1.trans (h4.mono fun k hk => ⟨Nat.lt_of_lt_of_le hk HX.out.1.size, by have := HW.out.2; omega⟩))
  clear h4 c0 c1 HX
  go_wp2_with fail
  go_ret2
  exact ⟨rfl, HE.out⟩

end Go.Proofs.Ytjollbaohopmjaa
