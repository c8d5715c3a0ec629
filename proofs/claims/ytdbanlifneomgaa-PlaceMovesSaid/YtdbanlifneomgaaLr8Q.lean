import Derived.Test.YtdbanlifneomgaaFt8Q
/- Package tree's leads: read, where the node keeps to what it must. -/
set_option linter.unusedVariables false
namespace Go.Proofs.Ytdbanlifneomgaa
open Go.RowKit

theorem trFits (page : Nat) (root : Bool) (lv : Int) (low high nlv : Nat) (a : Option Addr) (cap : Nat) (ps : Pairs) (w : World) (h : IsPs w a ps) (hf : FitOk root lv low high nlv ps) :
    Calls Try.prog 65 #[leadV page root lv low high, leafV (nlv : Int) a ps.length cap] w fun e w' => e = .returned (.bool true) ∧ KeptIn (· < w.heap.size) w w' := by
  cases root with
  | true => exact trFitsRoot page lv low high nlv a cap ps w h hf
  | false => exact trFitsKid page lv low high nlv a cap ps w h hf

set_option maxRecDepth 100000 in
theorem trLeadRead {w : World} {s room : Nat} {N : List Nd} {D : Nat → Prop} (h : IsSh w s room N D) (i : Nat) (hi : i < N.length) (root : Bool) (lv : Int) (low high : Nat) (hf : FitOk root lv low high N[i].1 N[i].2) :
    Calls Try.prog 48 #[leadV (i + 1) root lv low high, pgV s] w (RdS w (N[i].1 : Int) N[i].2) := by
  obtain ⟨p, hp⟩ : ∃ p, i + 1 = p := ⟨_, rfl⟩
  obtain ⟨W, hW⟩ : ∃ W, (w.alloc (.cells #[.int .i64 (p : Int), .bool root, .int .i64 lv, .int .u64 (low : Int), .int .u64 (high : Int)] 118)).alloc (.cells #[.int .i64 0, .slice none 0 0] 27) = W := ⟨_, rfl⟩
  have hkW : KeptIn (· < w.heap.size) w W := by rw [← hW]; exact ((KeptIn.refl _ w).alloc (fun _ h => h) _).alloc (fun _ h => h) _
  have C := trRead (h.old hkW) i hi
  obtain ⟨nlv, hlv⟩ : ∃ nlv, N[i].1 = nlv := ⟨_, rfl⟩
  obtain ⟨ps, hpe⟩ : ∃ ps, N[i].2 = ps := ⟨_, rfl⟩
  rw [hlv, hpe] at hf
  rw [hp, hlv, hpe] at C
  rw [hp, hlv, hpe]
  obtain ⟨x, hx⟩ : ∃ x, w.heap.size = x := ⟨_, rfl⟩
  have hbd : BoxD x p root lv low high W := by
    rw [← hW, ← hx]
    exact (BoxD.new w p root lv low high).kept ((KeptIn.refl _ _).alloc (fun _ h => h) _) (by simp)
  have hbl : BoxL (x + 1) 0 none 0 0 W := by
    rw [← hW, ← hx, show w.heap.size + 1 = (w.alloc (.cells #[.int .i64 (p : Int), .bool root, .int .i64 lv, .int .u64 (low : Int), .int .u64 (high : Int)] 118)).heap.size by simp]
    exact heap_alloc_new _ _
  have p0 := hbd.c0
  have HC := Lib.hid C
  have HFIT := Lib.hid hf
  have HWB := Lib.hid (And.intro hkW (And.intro hbd hbl))
  obtain ⟨m, hm⟩ : ∃ m, ps.length = m := ⟨_, rfl⟩
  have HM := Lib.hid hm
  unfold leadV pgV at *
  clear C hf hkW hbd hbl h hlv hpe hp hi hm
  go_enter Try.func48, Try.ntmps48
  go_wp2_with (go_at_call 64; refine HC.out.mono ?_)
  rintro e V ⟨g, cg, rfl, hps, hg, hkV, hty⟩
  rw [HM.out]
  unfold leafV
  obtain ⟨U, hU⟩ : ∃ U, V.alloc (.cells #[.int .i64 (nlv : Int), .slice (some ⟨g, 0, none⟩) m cg] 27) = U := ⟨_, rfl⟩
  obtain ⟨y, hy⟩ : ∃ y, V.heap.size = y := ⟨_, rfl⟩
  have hkU : KeptIn (· < V.heap.size) V U := by rw [← hU]; exact (KeptIn.refl _ V).alloc (fun _ h => h) _
  have hby : BoxL y (nlv : Int) (some ⟨g, 0, none⟩) m cg U := by rw [← hU, ← hy]; exact BoxL.new V _ _ _ _
  have hkWU : KeptIn (· < W.heap.size) W U := hkV.go hkU
  have hpsU := hps.old hkU
  have hbdU := HWB.out.2.1.kept hkWU HWB.out.2.1.lt
  have hblU := HWB.out.2.2.kept hkWU HWB.out.2.2.lt
  have CF := trFits p root lv low high nlv (some ⟨g, 0, none⟩) cg ps U hpsU HFIT.out
  unfold leafV leadV at CF
  rw [HM.out] at CF
  have q0 := hby.c0
  have q1 := hby.c1
  have d0 := hbdU.c0
  have d1 := hbdU.c1
  have d2 := hbdU.c2
  have d3 := hbdU.c3
  have d4 := hbdU.c4
  have HCF := Lib.hid CF
  have HTY := Lib.hid (hty.old hkU)
  have HQ := Lib.hid (And.intro hby (And.intro hblU (And.intro hpsU (And.intro hkWU hg))))
  clear hps hg hkV hkU hby hkWU hpsU hbdU hblU CF hty
  go_wp2_with (go_at_call 65; refine HCF.out.mono ?_)
  rintro e V2 ⟨rfl, hk2⟩
  have hb2 := HQ.out.1.kept hk2 HQ.out.1.lt
  have hr2 := HQ.out.2.1.kept hk2 HQ.out.2.1.lt
  have r0 := hb2.c0
  have r1 := hb2.c1
  have r2 := hr2.c0
  have r3 := hr2.f0
  have r4 := hr2.c1
  have r5 := hr2.f1
  have HTZ := Lib.hid (HTY.out.old hk2)
  have HR := Lib.hid (And.intro hr2 (And.intro (HQ.out.2.2.1.old hk2) (HQ.out.2.2.2.1.go hk2)))
  clear hb2 hr2 hk2
  go_wp2_with fail
  have hset := HR.out.1.set (lv' := (nlv : Int)) (a' := some ⟨g, 0, none⟩) (n' := m) (cap' := cg)
  have hwx : x ≤ W.heap.size := by rw [← hx]; exact HWB.out.1.size
  have hxg : x + 1 < g := Nat.lt_of_lt_of_le HWB.out.2.2.lt HQ.out.2.2.2.2
  have hps := psSet (psSet HR.out.2.1 ⟨x + 1, 0, none⟩ (.int .i64 (nlv : Int)) (fun p e => by cases e; exact Nat.ne_of_gt hxg)) ⟨x + 1, 1, none⟩ (.slice (some ⟨g, 0, none⟩) m cg) (fun p e => by cases e; exact Nat.ne_of_gt hxg)
  have hkx := ((HWB.out.1.go HR.out.2.2).setCell (p := ⟨x + 1, 0, none⟩) (by rw [hx]; simp) (.int .i64 (nlv : Int))).setCell (p := ⟨x + 1, 1, none⟩) (by rw [hx]; simp) (.slice (some ⟨g, 0, none⟩) m cg)
  refine bodyPost_ret (results_leaf rfl _ _ (x + 1) _ _ _ _ rfl hset) rfl ?_
  exact ⟨g, cg, by rw [HM.out]; rfl, hps, by rw [hx]; exact Nat.le_of_lt (Nat.lt_of_succ_lt hxg), hkx, (HTZ.out.set _ _ (Nat.ne_of_gt hxg)).set _ _ (Nat.ne_of_gt hxg)⟩

end Go.Proofs.Ytdbanlifneomgaa
