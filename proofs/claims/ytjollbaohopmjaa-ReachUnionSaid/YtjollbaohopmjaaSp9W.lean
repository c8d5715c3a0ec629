import Derived.Test.YtjollbaohopmjaaSo9W
import Derived.Deep.Cut
/- Package tree's survey over a memo: how the pages met grow; what stands at each step. -/
set_option linter.unusedVariables false
namespace Go.Proofs.Ytjollbaohopmjaa
open Go.RowKit

theorem sdu_at {V w1 : World} {S m cap gg cap' B0 : Nat} {p : Int} {u : Value} {a : Option Addr} {ms : List Int} (h : SvU V S u B0 (.slice a m cap) ms) (hm : ms.length = m) {o : Obj} (hg : (V.alloc o).grownBy w1 (Value.slice a m cap).ownBlock)
    (hown : w1.ownsRow B0 3 1 (.slice (some ⟨gg, 0, none⟩) (m + 1) cap') (m + 1) (cellsI ms ++ [.int .i64 p])) :
    SvU (w1.setCell ⟨S, 1, none⟩ (.slice (some ⟨gg, 0, none⟩) (m + 1) cap')) S u B0 (.slice (some ⟨gg, 0, none⟩) (m + 1) cap') (ms ++ [p]) := by
  have hSV : S < V.heap.size := Nat.lt_of_lt_of_le h.lt h.le
  have hS1 : w1.heap[S]? = V.heap[S]? := (hg.block _ (by simp; exact Nat.lt_succ_of_lt hSV) (fun e => rowS_ne h.row h.box (by decide) e.symm)).trans (Lib.alloc_old V _ _ hSV)
  have hk2 : KeptIn (· ≠ S) w1 (w1.setCell ⟨S, 1, none⟩ (.slice (some ⟨gg, 0, none⟩) (m + 1) cap')) := (KeptIn.refl _ w1).setCell (p := ⟨S, 1, none⟩) (by simp) _
  refine ⟨?_, ?_, h.lt, ?_⟩
  · exact (heap_setCell_same _ _ _ _ _ _ (hS1.trans h.box)).trans rfl
  · rw [List.length_append, hm]
    have : cellsI (ms ++ [p]) = cellsI ms ++ [.int .i64 p] := by simp [cellsI]
    rw [this]
    exact rowS_block hown fun g e => hk2.block g fun e2 => by
      have := (rowS_lt hown g e).1
      have := h.lt
      omega
  · have h1 := hg.size
    have h2 := hk2.size
    have h3 := h.le
    simp at h1
    omega

/-- What memo has come to keep: what it kept, and the pages ps. -/
def Mmo (M M' : Int → Option (Option Lf9)) (ps : List Int) : Prop := ∀ q, (M' q).isSome = ((M q).isSome || decide (q ∈ ps))
theorem Mmo.refl (M : Int → Option (Option Lf9)) : Mmo M M [] := fun q => by simp
theorem Mmo.add {M M' M2 : Int → Option (Option Lf9)} {ps : List Int} {p : Int} {z : Option Lf9} (h : Mmo M M' ps) (h1 : M2 p = some z) (h2 : ∀ q, q ≠ p → M2 q = M' q) : Mmo M M2 (ps ++ [p]) := fun q => by
  by_cases e : q = p
  · subst e; rw [h1]; simp
  · rw [h2 q e, h q]; simp [e]
theorem Mmo.trans {M M' M2 : Int → Option (Option Lf9)} {ps qs : List Int} (h : Mmo M M' ps) (k : Mmo M' M2 qs) : Mmo M M2 (ps ++ qs) := fun q => by
  rw [k q, h q]; simp [Bool.or_assoc]

/-- What memo holds. -/
def MmS (W : World) (x c : Nat) (N : List Nd) (M : Int → Option (Option Lf9)) (ps : List Int) : Prop := ∃ c' M', IsMm W x c' N M' ∧ c' ≤ c + ps.length ∧ Mmo M M' ps
theorem MmS.old {W W' : World} {x c : Nat} {N : List Nd} {M : Int → Option (Option Lf9)} {ps : List Int} (h : MmS W x c N M ps) (hk : KeptIn (· < W.heap.size) W W') : MmS W' x c N M ps := by
  obtain ⟨c', M', h1, h2, h3⟩ := h
  exact ⟨c', M', h1.old hk, h2, h3⟩
theorem MmS.met {V V' : World} {S B0 x c : Nat} {N : List Nd} {M : Int → Option (Option Lf9)} {u v : Value} {ms ps : List Int} (h : MmS V x c N M ps) (hs : SvU V S u B0 v ms) (hk : KeptIn (SdX V S v) V V') : MmS V' x c N M ps := by
  obtain ⟨c', M', h1, h2, h3⟩ := h
  exact ⟨c', M', h1.met hs hk, h2, h3⟩

/-- The pages of a subtree are met, their nodes kept. -/
def SoQ (w : World) (S s B0 x c : Nat) (N : List Nd) (M : Int → Option (Option Lf9)) (ms ps : List Int) (e : Ending) (w' : World) : Prop :=
  ∃ v, e = .returned (.bool true) ∧ SvU w' S (mmI s x) B0 v (ms ++ ps) ∧ MmS w' x c N M ps ∧ KeptIn (SdZ w S B0 x) w w'

/-- What stands behind the append to the pages met. -/
def SoM9 (w : World) (S s B0 xm c y p room : Nat) (N : List Nd) (D : Nat → Prop) (M : Int → Option (Option Lf9)) (root : Bool) (lv : Int) (lo hi : Nat) (ms : List Int) (V : World) : Prop :=
  ∃ v, SvU V S (mmI s xm) B0 v ms ∧ BoxD y p root lv lo hi V ∧ IsSh V s room N D ∧ (∀ k, D k → k < S ∧ k ≠ xm) ∧ KeptIn (SdZ w S B0 xm) w V ∧ w.heap.size ≤ y ∧ IsMm V xm c N M

theorem so_met9 {w V w1 : World} {S s B0 xm c y p room m cap gg cap' : Nat} {N : List Nd} {D : Nat → Prop} {M : Int → Option (Option Lf9)} {root : Bool} {lv : Int} {lo hi : Nat} {ms : List Int} {a : Option Addr} {o : Obj}
    (hsv : SvU V S (mmI s xm) B0 (.slice a m cap) ms) (hb : BoxD y p root lv lo hi V) (hsh : IsSh V s room N D) (hD : ∀ k, D k → k < S ∧ k ≠ xm) (hk : KeptIn (SdZ w S B0 xm) w V) (hx : w.heap.size ≤ y) (hmm : IsMm V xm c N M) (hm : ms.length = m)
    (hg : (V.alloc o).grownBy w1 (Value.slice a m cap).ownBlock) (hown : w1.ownsRow B0 3 1 (.slice (some ⟨gg, 0, none⟩) (m + 1) cap') (m + 1) (cellsI ms ++ [.int .i64 (p : Int)])) :
    SoM9 w S s B0 xm c y p room N D M root lv lo hi (ms ++ [(p : Int)]) (w1.setCell ⟨S, 1, none⟩ (.slice (some ⟨gg, 0, none⟩) (m + 1) cap')) := by
  have h1 : KeptIn (SdX V S (.slice a m cap)) V (w1.setCell ⟨S, 1, none⟩ (.slice (some ⟨gg, 0, none⟩) (m + 1) cap')) := sd_kept (m := m) (S := S) (v := .slice a m cap) hg
  have hz : KeptIn (SdZ V S B0 xm) V (w1.setCell ⟨S, 1, none⟩ (.slice (some ⟨gg, 0, none⟩) (m + 1) cap')) := h1.mono fun k hk => sdx_z hsv hk
  exact ⟨_, sdu_at hsv hm hg hown, hb.kept hz (sdz_cells hsv hmm hb (by decide) (by decide)), sdz_sh hsv hsh hD hz, hD, sdz_trans hk hz, hx, hmm.met hsv h1⟩

/-- What stands at the loop over a node's kids. -/
structure SoF9 (w : World) (S s B0 xm c z y p g n cg : Nat) (room : Nat) (N : List Nd) (D : Nat → Prop) (M : Int → Option (Option Lf9)) (qs : List Int) (root : Bool) (lv : Int) (lo hi : Nat) (L : Int) (ps : Pairs) (v : Value) (ms : List Int) (V : World) : Prop where
  sv : SvU V S (mmI s xm) B0 v ms
  lead : BoxD z p root lv lo hi V
  leaf : BoxL y L (some ⟨g, 0, none⟩) n cg V
  isps : IsPs V (some ⟨g, 0, none⟩) ps
  ty : TyP V g
  sh : IsSh V s room N D
  dS : ∀ k, D k → k < S ∧ k ≠ xm
  kept : KeptIn (SdZ w S B0 xm) w V
  len : ps.length = n
  mm : MmS V xm c N M qs
theorem SoF9.go {w V V' : World} {S s B0 xm c z y p g n cg room : Nat} {N : List Nd} {D : Nat → Prop} {M : Int → Option (Option Lf9)} {qs qs' : List Int} {root : Bool} {lv : Int} {lo hi : Nat} {L : Int} {ps : Pairs} {v v' : Value} {ms ms' : List Int} (h : SoF9 w S s B0 xm c z y p g n cg room N D M qs root lv lo hi L ps v ms V) (hk : KeptIn (SdZ V S B0 xm) V V') (hv : SvU V' S (mmI s xm) B0 v' ms') (hq : MmS V' xm c N M qs') : SoF9 w S s B0 xm c z y p g n cg room N D M qs' root lv lo hi L ps v' ms' V' := by
  obtain ⟨c', M', hm, _, _⟩ := h.mm
  obtain ⟨cs, fr, hb⟩ := h.ty
  have hg : SdZ V S B0 xm g := sdz_cells h.sv hm hb (by decide) (by decide)
  exact ⟨hv, h.lead.kept hk (sdz_cells h.sv hm h.lead (by decide) (by decide)), h.leaf.kept hk (sdz_cells h.sv hm h.leaf (by decide) (by decide)), psAt h.isps hk (fun p e => by cases e; exact hg),
    ⟨cs, fr, (hk.block g hg).trans hb⟩, sdz_sh h.sv h.sh h.dS hk, h.dS, sdz_trans h.kept hk, h.len, hq⟩
theorem SoF9.old {w V V' : World} {S s B0 xm c z y p g n cg room : Nat} {N : List Nd} {D : Nat → Prop} {M : Int → Option (Option Lf9)} {qs : List Int} {root : Bool} {lv : Int} {lo hi : Nat} {L : Int} {ps : Pairs} {v : Value} {ms : List Int} (h : SoF9 w S s B0 xm c z y p g n cg room N D M qs root lv lo hi L ps v ms V) (hk : KeptIn (· < V.heap.size) V V') : SoF9 w S s B0 xm c z y p g n cg room N D M qs root lv lo hi L ps v ms V' := h.go (sdz_old hk) (h.sv.old hk) (h.mm.old hk)

end Go.Proofs.Ytjollbaohopmjaa
