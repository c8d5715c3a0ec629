import Derived.Test.YtjollbaohopmjaaMo9W
import Derived.Test.YtjollbaohopmjaaV4
/- Package tree's lead.read of a memo. -/
set_option linter.unusedVariables false
namespace Go.Proofs.Ytjollbaohopmjaa
open Go.RowKit

set_option maxHeartbeats 2000000 in
set_option maxRecDepth 100000 in
theorem trLeadReadM {w : World} {s room c k : Nat} {N : List Nd} {D : Nat → Prop} {M : Int → Option (Option Lf9)} (h : IsMm w k c N M) (hS : IsSh w s room N D) (hc : c < 100000) (i : Nat) (hi : i < N.length) (hfi : Fits N[i].2) (root : Bool) (lv : Int) (low high : Nat) (hf : FitOk root lv low high N[i].1 N[i].2) :
    Calls Try.prog 35 #[leadV (i + 1) root lv low high, mmI s k] w (MmR w k c N M ((i + 1 : Nat) : Int) (N[i].1 : Int) N[i].2) := by
  obtain ⟨p, hp⟩ : ∃ p, i + 1 = p := ⟨_, rfl⟩
  obtain ⟨W, hW⟩ : ∃ W, (w.alloc (.cells #[.int .i64 (p : Int), .bool root, .int .i64 lv, .int .u64 (low : Int), .int .u64 (high : Int)] 97)).alloc (.cells #[.int .i64 0, .slice none 0 0] 27) = W := ⟨_, rfl⟩
  have hkW : KeptIn (· < w.heap.size) w W := by rw [← hW]; exact ((KeptIn.refl _ w).alloc (fun _ h => h) _).alloc (fun _ h => h) _
  have C := trReadM (h.old hkW) (hS.old hkW) hc i hi hfi
  obtain ⟨nlv, hlv⟩ : ∃ nlv, N[i].1 = nlv := ⟨_, rfl⟩
  obtain ⟨ps, hpe⟩ : ∃ ps, N[i].2 = ps := ⟨_, rfl⟩
  have HE := Lib.hid hpe
  have HP9 := Lib.hid hp
  rw [hlv, hpe] at hf
  rw [hp, hlv, hpe] at C
  rw [hp, hlv, hpe]
  obtain ⟨x, hx⟩ : ∃ x, w.heap.size = x := ⟨_, rfl⟩
  have hbd : BoxD x p root lv low high W := by
    rw [← hW, ← hx]
    exact (BoxD.new w p root lv low high).kept ((KeptIn.refl _ _).alloc (fun _ h => h) _) (by simp)
  have hbl : BoxL (x + 1) 0 none 0 0 W := by
    rw [← hW, ← hx, show w.heap.size + 1 = (w.alloc (.cells #[.int .i64 (p : Int), .bool root, .int .i64 lv, .int .u64 (low : Int), .int .u64 (high : Int)] 97)).heap.size by simp]
    exact heap_alloc_new _ _
  have p0 := hbd.c0
  have HKL := Lib.hid (And.intro h.lt hx)
  have HC := Lib.hid C
  have HFIT := Lib.hid hf
  have HWB := Lib.hid (And.intro hkW (And.intro hbd hbl))
  obtain ⟨m, hm⟩ : ∃ m, ps.length = m := ⟨_, rfl⟩
  have HM := Lib.hid hm
  unfold leadV mmI mmV pgV at *
  clear C hf hkW hbd hbl h hlv hpe hp hfi hm hS
  go_enter Try.func35, Try.ntmps35
  go_wp2_with (go_at_call 50; refine HC.out.mono ?_)
  rintro e V hR
  unfold MmR at hR
  obtain ⟨g, cg, c', M', rfl, hmm, hMp, hq, hcc, kV⟩ := hR
  have hxk : x ≠ k := fun e => by have := HKL.out.1; have := HKL.out.2; omega
  have hxk1 : x + 1 ≠ k := fun e => by have := HKL.out.1; have := HKL.out.2; omega
  rw [HM.out]
  unfold leafV
  have hps : IsPs V (some ⟨g, 0, none⟩) ps := by
    obtain ⟨i9, hi9, g9, cap9, q1, q2, q3, q4⟩ := hmm.node _ _ hMp
    simp only [Option.some.injEq, Prod.mk.injEq] at q2
    obtain ⟨_, rfl, q5, _⟩ := q2
    have hi0 : i9 = i := by have := HP9.out; omega
    subst hi0
    rw [← HE.out]
    exact q3
  obtain ⟨U, hU⟩ : ∃ U, V.alloc (.cells #[.int .i64 (nlv : Int), .slice (some ⟨g, 0, none⟩) m cg] 27) = U := ⟨_, rfl⟩
  obtain ⟨y, hy⟩ : ∃ y, V.heap.size = y := ⟨_, rfl⟩
  have hkU : KeptIn (· < V.heap.size) V U := by rw [← hU]; exact (KeptIn.refl _ V).alloc (fun _ h => h) _
  have hby : BoxL y (nlv : Int) (some ⟨g, 0, none⟩) m cg U := by rw [← hU, ← hy]; exact BoxL.new V _ _ _ _
  have hbdU := (HWB.out.2.1.kept kV ⟨HWB.out.2.1.lt, hxk⟩).kept hkU (HWB.out.2.1.kept kV ⟨HWB.out.2.1.lt, hxk⟩).lt
  have hblU := (HWB.out.2.2.kept kV ⟨HWB.out.2.2.lt, hxk1⟩).kept hkU (HWB.out.2.2.kept kV ⟨HWB.out.2.2.lt, hxk1⟩).lt
  have hpsU := hps.old hkU
  have hmU := hmm.old hkU
  have hkw : KeptIn (fun j => j < w.heap.size ∧ j ≠ k) w U := ((HWB.out.1.mono fun j h => h.1).trans (kV.mono fun j h => ⟨Nat.lt_of_lt_of_le h.1 HWB.out.1.size, h.2⟩)).trans (hkU.mono fun j h => Nat.lt_of_lt_of_le h.1 (Nat.le_trans HWB.out.1.size kV.size))
  have CF := trFits p root lv low high nlv (some ⟨g, 0, none⟩) cg ps U hpsU HFIT.out
  unfold leafV leadV at CF
  rw [HM.out] at CF
  have q0 := hby.c0; have q1 := hby.c1
  have d0 := hbdU.c0; have d1 := hbdU.c1; have d2 := hbdU.c2; have d3 := hbdU.c3; have d4 := hbdU.c4
  have HCF := Lib.hid CF
  have HQ := Lib.hid (And.intro hby (And.intro hblU (And.intro hmU (And.intro hkw (And.intro hMp (And.intro hq hcc))))))
  clear hps kV hkU hby hpsU hbdU hblU CF hmm hMp hq hcc hmU hkw hxk hxk1
  go_wp2_with (go_at_call 51; refine HCF.out.mono ?_)
  rintro e V2 ⟨rfl, hk2⟩
  have hb2 := HQ.out.1.kept hk2 HQ.out.1.lt
  have hr2 := HQ.out.2.1.kept hk2 HQ.out.2.1.lt
  have r0 := hb2.c0; have r1 := hb2.c1; have r2 := hr2.c0; have r3 := hr2.f0; have r4 := hr2.c1; have r5 := hr2.f1
  have HR := Lib.hid (And.intro hr2 (And.intro (HQ.out.2.2.1.old hk2) (HQ.out.2.2.2.1.trans (hk2.mono fun j h => Nat.lt_of_lt_of_le h.1 HQ.out.2.2.2.1.size))))
  clear hb2 hr2 hk2
  go_wp2_with fail
  have hset := HR.out.1.set (lv' := (nlv : Int)) (a' := some ⟨g, 0, none⟩) (n' := m) (cap' := cg)
  have hs0 : BoxL (x + 1) (nlv : Int) none 0 0 (V2.setCell ⟨x + 1, 0, none⟩ (.int .i64 (nlv : Int))) := (heap_setCell_same _ _ _ _ _ _ HR.out.1).trans rfl
  have hm5 := (HR.out.2.1.set HR.out.1 0 (.int .i64 (nlv : Int))).set hs0 1 (.slice (some ⟨g, 0, none⟩) m cg)
  have hwx := HKL.out.2
  have hkx := (HR.out.2.2.setCell (p := ⟨x + 1, 0, none⟩) (by intro h; have h1 : x + 1 < w.heap.size := h.1; omega) (.int .i64 (nlv : Int))).setCell (p := ⟨x + 1, 1, none⟩) (by intro h; have h1 : x + 1 < w.heap.size := h.1; omega) (.slice (some ⟨g, 0, none⟩) m cg)
  refine bodyPost_ret (results_leaf rfl _ _ (x + 1) _ _ _ _ rfl hset) rfl ?_
  exact ⟨g, cg, c', M', by rw [HM.out]; rfl, hm5, HQ.out.2.2.2.2.1, HQ.out.2.2.2.2.2.1, HQ.out.2.2.2.2.2.2, hkx⟩

end Go.Proofs.Ytjollbaohopmjaa
