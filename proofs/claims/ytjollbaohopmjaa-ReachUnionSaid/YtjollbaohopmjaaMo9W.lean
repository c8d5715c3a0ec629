import Derived.Test.YtjollbaohopmjaaMn9W
/- Package reach's memo: Read, whichever; package tree's read of it. -/
set_option linter.unusedVariables false
namespace Go.Proofs.Ytjollbaohopmjaa
open Go.RowKit

theorem IsMm.setE {W : World} {x c b : Nat} {N : List Nd} {M : Int → Option (Option Lf9)} {cs : Array Value} {fr : Nat × Nat} (h : IsMm W x c N M) (hb : W.heap[b]? = some (.cells cs 32 fr)) (j : Nat) (v : Value) : IsMm (W.setCell ⟨b, j, none⟩ v) x c N M := by
  have hk : KeptIn (· ≠ b) W (W.setCell ⟨b, j, none⟩ v) := (KeptIn.refl _ W).setCell (p := ⟨b, j, none⟩) (by simp) _
  have hne : ∀ g, TyP W g → g ≠ b := fun g hg e => by
    obtain ⟨cs, fr, h1⟩ := hg
    rw [e, hb] at h1
    simp only [Option.some.injEq, Obj.cells.injEq] at h1
    exact absurd h1.2.1 (by decide)
  refine ⟨h.map.kept hk (fun e => h.map.ne hb e.symm), fun p z hz => ?_⟩
  obtain ⟨i, hi, g, cap', q1, q2, q3, q4⟩ := h.node p z hz
  have hg := hne g q4.1
  exact ⟨i, hi, g, cap', q1, q2, psSet q3 ⟨b, j, none⟩ v (fun q e => by cases e; exact hg), q4.set ⟨b, j, none⟩ v hg⟩

/-- What a reading leaves: the node is kept, and what was kept is as it was. -/
def MmR (w : World) (x c : Nat) (N : List Nd) (M : Int → Option (Option Lf9)) (p lv : Int) (ps : Pairs) (e : Ending) (w' : World) : Prop :=
  ∃ (g cap c' : Nat) (M' : Int → Option (Option Lf9)), e = .returned (.tuple #[leafV lv (some ⟨g, 0, none⟩) ps.length cap, .int .i64 0]) ∧ IsMm w' x c' N M' ∧ M' p = some (some (lv, g, ps.length, cap)) ∧
    (∀ q, q ≠ p → M' q = M q) ∧ c' ≤ c + 1 ∧ KeptIn (fun j => j < w.heap.size ∧ j ≠ x) w w'

theorem mmRead {w : World} {s room x c : Nat} {N : List Nd} {D : Nat → Prop} {M : Int → Option (Option Lf9)} (h : IsMm w x c N M) (hS : IsSh w s room N D) (hc : c < 100000) (i : Nat) (hi : i < N.length) (hf : Fits N[i].2) :
    Calls Try.prog 111 #[mmV s x, .int .i64 ((i + 1 : Nat) : Int)] w (MmR w x c N M ((i + 1 : Nat) : Int) (N[i].1 : Int) N[i].2) := by
  cases hz : M ((i + 1 : Nat) : Int) with
  | none =>
    refine (mmReadNew h hS hc i hi hf hz).mono ?_
    rintro e w' ⟨g, cap, rfl, h1, h2, h3⟩
    exact ⟨g, cap, c + 1, _, rfl, h1, mpPut_self _ _ _, fun q hq => by unfold mpPut; rw [if_neg hq], Nat.le_refl _, h3⟩
  | some z =>
    obtain ⟨i', hi', g, cap, q1, q2, q3, q4⟩ := h.node _ z hz
    obtain rfl : i = i' := by omega
    subst q2
    refine (mmReadHas h _ (by
      have := hS.len
      simp [Lit.wf, IntKind.min, IntKind.max, IntKind.signed, IntKind.bits]
      omega) _ hz).mono ?_
    rintro e w' ⟨rfl, hk⟩
    exact ⟨g, cap, c, M, rfl, h.old hk, hz, fun _ _ => rfl, Nat.le_succ _, hk.mono fun k h => h.1⟩

set_option maxHeartbeats 1000000 in
set_option maxRecDepth 100000 in
theorem trReadM {w : World} {s room x c : Nat} {N : List Nd} {D : Nat → Prop} {M : Int → Option (Option Lf9)} (h : IsMm w x c N M) (hS : IsSh w s room N D) (hc : c < 100000) (i : Nat) (hi : i < N.length) (hf : Fits N[i].2) :
    Calls Try.prog 50 #[mmI s x, .int .i64 ((i + 1 : Nat) : Int)] w (MmR w x c N M ((i + 1 : Nat) : Int) (N[i].1 : Int) N[i].2) := by
  have hmf : ∀ (fn : Fn) (first cap : Array Value) (w : World), (Instr.makeFunc fn first cap).run Try.prog w = .ok (.func fn first cap) w := fun _ _ _ _ => rfl
  obtain ⟨W, hW⟩ : ∃ W, (w.alloc (.cells #[.int .i64 0, .slice none 0 0] 27)).alloc (.cells #[.int .i64 0] 32) = W := ⟨_, rfl⟩
  have hk : KeptIn (· < w.heap.size) w W := by rw [← hW]; exact ((KeptIn.refl _ w).alloc (fun _ h => h) _).alloc (fun _ h => h) _
  have C := mmRead (h.old hk) (hS.old hk) hc i hi hf
  obtain ⟨p, hp⟩ : ∃ p : Int, ((i + 1 : Nat) : Int) = p := ⟨_, rfl⟩
  obtain ⟨lv, hlv⟩ : ∃ lv : Int, (N[i].1 : Int) = lv := ⟨_, rfl⟩
  obtain ⟨ps, hpe⟩ : ∃ ps, N[i].2 = ps := ⟨_, rfl⟩
  rw [hp, hlv, hpe] at C
  rw [hp, hlv, hpe]
  have HC := Lib.hid C
  have HXL := Lib.hid h.lt
  obtain ⟨b, hx⟩ : ∃ b, w.heap.size = b := ⟨_, rfl⟩
  have hb : BoxL b 0 none 0 0 W := by rw [← hW, ← hx]; exact (BoxL.new w 0 none 0 0).kept ((KeptIn.refl _ _).alloc (fun _ h => h) _) (by simp)
  have hb2 : W.heap[b + 1]? = some (.cells #[.int .i64 0] 32 (0, 0)) := by
    rw [← hW, ← hx, show w.heap.size + 1 = (w.alloc (.cells #[.int .i64 0, .slice none 0 0] 27)).heap.size by simp]
    exact heap_alloc_new _ _
  have HB := Lib.hid (And.intro hb (And.intro hb2 (And.intro hk hx)))
  clear C hb hb2 hk hp hlv hpe hf hi hS h
  unfold mmI mmV
  unfold mmV at HC
  go_enter_defers Try.func50, Try.ntmps50
  go_wp2_with (go_at_call 111; refine HC.out.mono ?_)
  rintro e V hR
  unfold MmR at hR
  obtain ⟨g, cap, c', M', rfl, hm, hM, hq, hc', kV⟩ := hR
  have hbx : b ≠ x := fun e => by have := HXL.out; have := HB.out.2.2.2; omega
  have hbx1 : b + 1 ≠ x := fun e => by have := HXL.out; have := HB.out.2.2.2; omega
  have hbV := HB.out.1.kept kV ⟨HB.out.1.lt, hbx⟩
  have hb2V := (kV.block (b + 1) ⟨(Array.getElem?_eq_some_iff.1 HB.out.2.1).1, hbx1⟩).trans HB.out.2.1
  have c0 := hbV.c0; have f0 := hbV.f0; have c1 := hbV.c1; have f1 := hbV.f1
  have c2 : V.cell? ⟨b + 1, 0, none⟩ = some (.int .i64 0) := by simp [World.cell?, hb2V]
  have f2 : V.frozen? ⟨b + 1, 0, none⟩ = false := by simp [World.frozen?, hb2V]
  have hkx : KeptIn (fun j => j < w.heap.size ∧ j ≠ x) w V := (HB.out.2.2.1.mono fun k h => h.1).trans (kV.mono fun k h => ⟨Nat.lt_of_lt_of_le h.1 HB.out.2.2.1.size, h.2⟩)
  have HF := Lib.hid (And.intro hbV (And.intro hb2V (And.intro hm (And.intro hkx (And.intro hM (And.intro hq hc'))))))
  obtain ⟨m, hml⟩ : ∃ m, ps.length = m := ⟨_, rfl⟩
  have HML := Lib.hid hml
  unfold leafV
  rw [hml]
  clear hbV hb2V hm hkx kV hM hq hc' hml hbx hbx1
  go_wp2_with fail
  have hs0 : BoxL b lv none 0 0 (V.setCell ⟨b, 0, none⟩ (.int .i64 lv)) := (heap_setCell_same _ _ _ _ _ _ HF.out.1).trans rfl
  have hset := BoxL.set (lv' := lv) (a' := some ⟨g, 0, none⟩) (n' := m) (cap' := cap) HF.out.1
  have hm5 := (HF.out.2.2.1.set HF.out.1 0 (.int .i64 lv)).set hs0 1 (.slice (some ⟨g, 0, none⟩) m cap)
  have hset2 : BoxL b lv (some ⟨g, 0, none⟩) m cap (((V.setCell ⟨b, 0, none⟩ (.int .i64 lv)).setCell ⟨b, 1, none⟩ (.slice (some ⟨g, 0, none⟩) m cap)).setCell ⟨b + 1, 0, none⟩ (.int .i64 0)) := (heap_setCell_other _ _ _ _ (by simp)).trans hset
  have hb2W : ((V.setCell ⟨b, 0, none⟩ (.int .i64 lv)).setCell ⟨b, 1, none⟩ (.slice (some ⟨g, 0, none⟩) m cap)).heap[b + 1]? = some (.cells #[.int .i64 0] 32 (0, 0)) := ((heap_setCell_other _ _ _ _ (by simp)).trans (heap_setCell_other _ _ _ _ (by simp))).trans HF.out.2.1
  have hm6 := hm5.setE hb2W 0 (.int .i64 0)
  have hwb := HB.out.2.2.2
  have hkx := ((HF.out.2.2.2.1.setCell (p := ⟨b, 0, none⟩) (by intro h; have h1 : b < w.heap.size := h.1; omega) (.int .i64 lv)).setCell (p := ⟨b, 1, none⟩) (by intro h; have h1 : b < w.heap.size := h.1; omega) (.slice (some ⟨g, 0, none⟩) m cap)).setCell (p := ⟨b + 1, 0, none⟩) (by intro h; have h1 : b + 1 < w.heap.size := h.1; omega) (.int .i64 0)
  have he : (((V.setCell ⟨b, 0, none⟩ (.int .i64 lv)).setCell ⟨b, 1, none⟩ (.slice (some ⟨g, 0, none⟩) m cap)).setCell ⟨b + 1, 0, none⟩ (.int .i64 0)).cell? ⟨b + 1, 0, none⟩ = some (.int .i64 0) := World.cell?_setCell_same' _ _ _ (by
    simp [World.cell?, hb2W])
  obtain ⟨W9, hW9⟩ : ∃ W9, ((V.setCell ⟨b, 0, none⟩ (.int .i64 lv)).setCell ⟨b, 1, none⟩ (.slice (some ⟨g, 0, none⟩) m cap)).setCell ⟨b + 1, 0, none⟩ (.int .i64 0) = W9 := ⟨_, rfl⟩
  rw [hW9] at hset2 hkx he hm6 ⊢
  clear hW9
  refine leaves_cons (f := 71) (args := #[.pointer (some ⟨b, 0, none⟩), .pointer (some ⟨b + 1, 0, none⟩)]) (by simp) (by simp [go_sem]) ?_
  refine (trRead1 _ _ _).mono ?_
  rintro e u' w'' ⟨rfl, rfl, rfl⟩
  exact ⟨_, results_leafE rfl _ _ b _ _ _ _ (b + 1) _ rfl rfl hset2 he, g, cap, c', M', by rw [HML.out], hm6, HF.out.2.2.2.2.1, HF.out.2.2.2.2.2.1, HF.out.2.2.2.2.2.2, hkx⟩

end Go.Proofs.Ytjollbaohopmjaa
