import Derived.Test.YtjollbaohopmjaaSp9W
/- Package tree's survey over a memo: what a node's read leaves; the loop over its kids. -/
set_option linter.unusedVariables false
namespace Go.Proofs.Ytjollbaohopmjaa
open Go.RowKit

theorem IsMm.at {W : World} {x c i g n cap : Nat} {lv : Int} {N : List Nd} {M : Int → Option (Option Lf9)} (h : IsMm W x c N M) (hi : i < N.length) (hz : M ((i + 1 : Nat) : Int) = some (some (lv, g, n, cap))) : IsPs W (some ⟨g, 0, none⟩) N[i].2 ∧ TyP W g := by
  obtain ⟨i', hi', g', cap', q1, q2, q3, q4⟩ := h.node _ _ hz
  obtain rfl : i = i' := by omega
  simp only [Option.some.injEq, Prod.mk.injEq] at q2
  obtain ⟨_, rfl, _, _⟩ := q2
  exact ⟨q3, q4.1⟩

theorem so_read9 {w wc V0 V : World} {S s B0 xm c c' z y g n cg room i : Nat} {N : List Nd} {D : Nat → Prop} {M M' : Int → Option (Option Lf9)} {root : Bool} {lv : Int} {lo hi : Nat} {L : Int} {ms : List Int}
    (h : SoM9 w S s B0 xm c z (i + 1) room N D M root lv lo hi ms wc) (hix : i < N.length) (hk0 : KeptIn (· < wc.heap.size) wc V0) (hy : y = wc.heap.size) (hy0 : BoxL y 0 none 0 0 V0) (hk : KeptIn (fun j => j < V0.heap.size ∧ j ≠ xm) V0 V)
    (hm : IsMm V xm c' N M') (hz : M' ((i + 1 : Nat) : Int) = some (some (L, g, n, cg))) (hq : ∀ q, q ≠ ((i + 1 : Nat) : Int) → M' q = M q) (hc : c' ≤ c + 1) (hn : N[i].2.length = n) :
    ∃ v, SoF9 w S s B0 xm c z y (i + 1) g n cg room N D M [((i + 1 : Nat) : Int)] root lv lo hi L N[i].2 v ms ((V.setCell ⟨y, 0, none⟩ (.int .i64 L)).setCell ⟨y, 1, none⟩ (.slice (some ⟨g, 0, none⟩) n cg)) := by
  obtain ⟨v, h1, h2, h3, h4, h5, h6, h7⟩ := h
  obtain ⟨hps, hty⟩ := hm.at hix hz
  have h70 := h7.old hk0
  have hb := hy0.kept hk ⟨hy0.lt, h70.map.ne hy0⟩
  have hset := hb.set (lv' := L) (a' := some ⟨g, 0, none⟩) (n' := n) (cap' := cg)
  have hgy : g ≠ y := fun e => by
    obtain ⟨cs, fr, h8⟩ := hty
    rw [e, show V.heap[y]? = _ from hb] at h8
    simp only [Option.some.injEq, Obj.cells.injEq] at h8
    exact absurd h8.2.1 (by decide)
  have hkr : KeptIn (fun j => j < wc.heap.size ∧ j ≠ xm) wc V := (hk0.mono fun j h => h.1).trans (hk.mono fun j h => ⟨Nat.lt_of_lt_of_le h.1 hk0.size, h.2⟩)
  have hkf : KeptIn (fun j => j < wc.heap.size ∧ j ≠ xm) wc ((V.setCell ⟨y, 0, none⟩ (.int .i64 L)).setCell ⟨y, 1, none⟩ (.slice (some ⟨g, 0, none⟩) n cg)) := (hkr.setCell (p := ⟨y, 0, none⟩) (by simp; omega) _).setCell (p := ⟨y, 1, none⟩) (by simp; omega) _
  have hs0 : BoxL y L none 0 0 (V.setCell ⟨y, 0, none⟩ (.int .i64 L)) := (heap_setCell_same _ _ _ _ _ _ hb).trans rfl
  refine ⟨v, h1.read h7 hkf, h2.kept hkf ⟨h2.lt, h7.map.ne h2⟩, hset, ?_, ?_, sdz_sh h1 h3 h4 (sdz_read hkf), h4, sdz_trans h5 (sdz_read hkf), hn, c', M', (hm.set hb 0 _).set hs0 1 _, by simpa using hc, ?_⟩
  · exact psSet (psSet hps ⟨y, 0, none⟩ _ (fun p e => by cases e; exact hgy)) ⟨y, 1, none⟩ _ (fun p e => by cases e; exact hgy)
  · obtain ⟨cs, fr, hb⟩ := hty
    exact ⟨cs, fr, (heap_setCell_other _ _ _ _ hgy).trans ((heap_setCell_other _ _ _ _ hgy).trans hb)⟩
  · exact (Mmo.refl M).add hz hq

theorem so_read29 {w wc V : World} {S s B0 xm c c' z g n cg room i : Nat} {N : List Nd} {D : Nat → Prop} {M M' : Int → Option (Option Lf9)} {root : Bool} {lv : Int} {lo hi : Nat} {L : Int} {ms : List Int}
    (h : SoM9 w S s B0 xm c z (i + 1) room N D M root lv lo hi ms wc) (hix : i < N.length) (hk : KeptIn (fun j => j < wc.heap.size ∧ j ≠ xm) wc V)
    (hm : IsMm V xm c' N M') (hz : M' ((i + 1 : Nat) : Int) = some (some (L, g, n, cg))) (hq : ∀ q, q ≠ ((i + 1 : Nat) : Int) → M' q = M q) (hc : c' ≤ c + 1) (hn : N[i].2.length = n) :
    ∃ v, SoF9 w S s B0 xm c z V.heap.size (i + 1) g n cg room N D M [((i + 1 : Nat) : Int)] root lv lo hi L N[i].2 v ms (V.alloc (.cells #[.int .i64 L, .slice (some ⟨g, 0, none⟩) n cg] 27)) := by
  obtain ⟨v, h1, h2, h3, h4, h5, h6, h7⟩ := h
  obtain ⟨hps, hty⟩ := hm.at hix hz
  have hka : KeptIn (· < V.heap.size) V (V.alloc (.cells #[.int .i64 L, .slice (some ⟨g, 0, none⟩) n cg] 27)) := (KeptIn.refl _ V).alloc (fun _ h => h) _
  have hkf : KeptIn (fun j => j < wc.heap.size ∧ j ≠ xm) wc (V.alloc (.cells #[.int .i64 L, .slice (some ⟨g, 0, none⟩) n cg] 27)) := hk.trans (hka.mono fun j h => Nat.lt_of_lt_of_le h.1 hk.size)
  exact ⟨v, h1.read h7 hkf, h2.kept hkf ⟨h2.lt, h7.map.ne h2⟩, BoxL.new V _ _ _ _, hps.old hka, hty.old hka, sdz_sh h1 h3 h4 (sdz_read hkf), h4, sdz_trans h5 (sdz_read hkf), hn, c', M', hm.old hka, by simpa using hc, (Mmo.refl M).add hz hq⟩

/-- What stands in the loop over a node's kids. -/
def SoK9 (w : World) (S s B0 xm c z y p g n cg room : Nat) (N : List Nd) (D : Nat → Prop) (M : Int → Option (Option Lf9)) (root : Bool) (lv : Int) (lo hi : Nat) (L : Int) (ps qs : Pairs) (l : Nat) (g0 : List Nat) (ms1 : List Int) (j : Nat) (W : World) : Prop :=
  ∃ v qa qb ga gb, j ≤ n ∧ qs = qa ++ qb ∧ g0 = ga ++ gb ∧ Kids (Snd N l) (ps.take j) qa ga ∧ Kids (Snd N l) (ps.drop j) qb gb ∧ SoF9 w S s B0 xm c z y p g n cg room N D M ((p : Int) :: ofP ga) root lv lo hi L ps v (ms1 ++ ofP ga) W

end Go.Proofs.Ytjollbaohopmjaa
