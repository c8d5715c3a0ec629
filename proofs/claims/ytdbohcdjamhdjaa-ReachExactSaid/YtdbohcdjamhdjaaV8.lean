import Derived.Test.YtdbohcdjamhdjaaV5
import Derived.Test.YtdbohcdjamhdjaaV6
import Derived.Deep.Cut
import Derived.Deep.RegionHeld3
import Derived.Test.YtdbohcdjamhdjaaV7
import Derived.Maps.RangeWalk
import Derived.OwnWalk
/- Package tree's survey over a memo: what a walk leaves as it was. -/
set_option linter.unusedVariables false
namespace Go.Proofs.Ytdbohcdjamhdjaa
open Go.RowKit

/-- What a survey over a memo leaves as it was: as SdY, but for the memo's map at block x. -/
def SdZ (w : World) (S B0 x k : Nat) : Prop := SdY w S B0 k ∧ k ≠ x
theorem SdZ.go {w w' : World} {S B0 x k : Nat} (h : SdZ w S B0 x k) (hk : KeptIn (SdZ w S B0 x) w w') : SdZ w' S B0 x k := by
  refine ⟨⟨Nat.lt_of_lt_of_le h.1.1 hk.size, h.1.2.1, ?_⟩, h.2⟩
  rcases h.1.2.2 with h1 | ⟨cs, T, fr, h1, h2⟩
  · exact .inl h1
  · exact .inr ⟨cs, T, fr, (hk.block k h).trans h1, h2⟩
theorem sdz_trans {a b c : World} {S B0 x : Nat} (h : KeptIn (SdZ a S B0 x) a b) (k : KeptIn (SdZ b S B0 x) b c) : KeptIn (SdZ a S B0 x) a c := h.trans (k.mono fun _ hk => hk.go h)
theorem sdz_old {a b : World} {S B0 x : Nat} (h : KeptIn (· < a.heap.size) a b) : KeptIn (SdZ a S B0 x) a b := h.mono fun _ hk => hk.1.1
theorem sdz_read {a b : World} {S B0 x : Nat} (h : KeptIn (fun j => j < a.heap.size ∧ j ≠ x) a b) : KeptIn (SdZ a S B0 x) a b := h.mono fun _ hk => ⟨hk.1.1, hk.2⟩
/-- A walk over all of a tree, in memory; the pages are u. -/
structure SvU (W : World) (S : Nat) (u : Value) (B0 : Nat) (v : Value) (ms : List Int) : Prop where
  box : W.heap[S]? = some (.cells #[u, v, .int .i64 0] 125 (0, 0))
  row : W.ownsRow B0 3 1 v ms.length (cellsI ms)
  lt : S < B0
  le : B0 ≤ W.heap.size

theorem SvU.old {W W' : World} {S B0 : Nat} {u v : Value} {ms : List Int} (h : SvU W S u B0 v ms) (hk : KeptIn (· < W.heap.size) W W') : SvU W' S u B0 v ms :=
  ⟨(hk.block S (Nat.lt_of_lt_of_le h.lt h.le)).trans h.box, rowS_block h.row fun g e => hk.block g (rowS_lt h.row g e).2, h.lt, Nat.le_trans h.le hk.size⟩
theorem SvU.noMap {W : World} {S B0 x c : Nat} {u v : Value} {ms : List Int} {N : List Nd} {M : Int → Option (Option Lf9)} (h : SvU W S u B0 v ms) (hm : IsMm W x c N M) : S ≠ x ∧ v.ownBlock ≠ some x := by
  refine ⟨hm.map.ne h.box, fun e => ?_⟩
  obtain ⟨D, ⟨es, clock, h1, _⟩, _⟩ := hm.map
  rcases h.row.2 with ⟨e2, _⟩ | ⟨g1, cap1, cur, e2, _, hg, _⟩
  · rw [e2] at e; simp [Value.ownBlock] at e
  · rw [e2] at e
    simp [Value.ownBlock] at e
    subst e
    rw [h1] at hg
    simp at hg
theorem SvU.read {W W' : World} {S B0 x c : Nat} {u v : Value} {ms : List Int} {N : List Nd} {M : Int → Option (Option Lf9)} (h : SvU W S u B0 v ms) (hm : IsMm W x c N M) (hk : KeptIn (fun j => j < W.heap.size ∧ j ≠ x) W W') : SvU W' S u B0 v ms :=
  ⟨(hk.block S ⟨Nat.lt_of_lt_of_le h.lt h.le, (h.noMap hm).1⟩).trans h.box, rowS_block h.row fun g e => hk.block g ⟨(rowS_lt h.row g e).2, fun e2 => (h.noMap hm).2 (by rw [e, e2])⟩, h.lt, Nat.le_trans h.le hk.size⟩

/-- What is kept stands while the pages met grow. -/
theorem IsMm.met {V V' : World} {S B0 x c : Nat} {N : List Nd} {M : Int → Option (Option Lf9)} {u v : Value} {ms : List Int} (h : IsMm V x c N M) (hs : SvU V S u B0 v ms) (hk : KeptIn (SdX V S v) V V') : IsMm V' x c N M := by
  refine ⟨h.map.kept hk ⟨h.lt, (hs.noMap h).1.symm, (hs.noMap h).2⟩, fun p z hz => ?_⟩
  obtain ⟨i, hi, g, cap, q1, q2, q3, q4⟩ := h.node p z hz
  obtain ⟨cs, fr, q5⟩ := q4.1
  have hg : SdX V S v g := ⟨(Array.getElem?_eq_some_iff.1 q5).1, fun e => by subst e; have := Eq.trans q5.symm hs.box; simp at this, rowS_ne hs.row q5 (by decide)⟩
  exact ⟨i, hi, g, cap, q1, q2, psAt q3 hk (fun p e => by cases e; exact hg), ⟨q4.1.kept (hk.block g hg), q4.2⟩⟩

section
variable {V V' : World} {S B0 x : Nat} {u v : Value} {ms : List Int}
theorem sdx_z {k : Nat} (h : SvU V S u B0 v ms) (hk : SdZ V S B0 x k) : SdX V S v k := by
  refine ⟨hk.1.1, hk.1.2.1, fun e => ?_⟩
  rcases hk.1.2.2 with h1 | ⟨cs, T, fr, h1, h2⟩
  · have := (rowS_lt h.row k e).1
    omega
  · exact rowS_ne h.row h1 h2 e
theorem sdz_cells {k : Nat} {T : TypeId} {cs : Array Value} {fr : Nat × Nat} {c : Nat} {N : List Nd} {M : Int → Option (Option Lf9)} (h : SvU V S u B0 v ms) (hm : IsMm V x c N M) (hb : V.heap[k]? = some (.cells cs T fr)) (h1 : T ≠ 3) (h2 : T ≠ 125) : SdZ V S B0 x k :=
  ⟨⟨(Array.getElem?_eq_some_iff.1 hb).1, fun e => by subst e; have := Eq.trans hb.symm h.box; simp only [Option.some.injEq, Obj.cells.injEq] at this; exact h2 this.2.1, .inr ⟨_, _, _, hb, h1⟩⟩, hm.map.ne hb⟩
theorem sdz_sh {s room : Nat} {N : List Nd} {D : Nat → Prop} (h : SvU V S u B0 v ms) (hsh : IsSh V s room N D) (hD : ∀ k, D k → k < S ∧ k ≠ x) (hk : KeptIn (SdZ V S B0 x) V V') : IsSh V' s room N D :=
  hsh.kept (hk.mono fun k hk => ⟨⟨hsh.lt k hk, Nat.ne_of_lt (hD k hk).1, .inl (by have := (hD k hk).1; have := h.lt; omega)⟩, (hD k hk).2⟩)
end

end Go.Proofs.Ytdbohcdjamhdjaa
/- Package tree's survey over a memo: how the pages met grow; what stands at each step. -/
set_option linter.unusedVariables false
namespace Go.Proofs.Ytdbohcdjamhdjaa
open Go.RowKit

theorem sdu_at {V w1 : World} {S m cap gg cap' B0 : Nat} {p : Int} {u : Value} {a : Option Addr} {ms : List Int} (h : SvU V S u B0 (.slice a m cap) ms) (hm : ms.length = m) {o : Obj} (hg : (V.alloc o).grownBy w1 (Value.slice a m cap).ownBlock)
    (hown : w1.ownsRow B0 3 1 (.slice (some ⟨gg, 0, none⟩) (m + 1) cap') (m + 1) (cellsI ms ++ [.int .i64 p])) :
    SvU (w1.setCell ⟨S, 1, none⟩ (.slice (some ⟨gg, 0, none⟩) (m + 1) cap')) S u B0 (.slice (some ⟨gg, 0, none⟩) (m + 1) cap') (ms ++ [p]) := by
  have hSV : S < V.heap.size := Nat.lt_of_lt_of_le h.lt h.le
  have hS1 : w1.heap[S]? = V.heap[S]? := (hg.block _ (by simp; exact Nat.lt_succ_of_lt hSV) (fun e => rowS_ne h.row h.box (by decide) e.symm)).trans (Lib.alloc_old V _ _ hSV)
  have hk2 : KeptIn (· ≠ S) w1 (w1.setCell ⟨S, 1, none⟩ (.slice (some ⟨gg, 0, none⟩) (m + 1) cap')) := (KeptIn.refl _ w1).setCell (p := ⟨S, 1, none⟩) (by simp) _
  refine ⟨?_, ?_, h.lt, ?_⟩
  · exact (heap_setCell_same _ _ _ _ _ _ (hS1.trans h.box)).trans rfl
  · rw [List.length_append, hm]
    have : cellsI (ms ++ [p]) = cellsI ms ++ [.int .i64 p] := by simp [cellsI]
    rw [this]
    exact rowS_block hown fun g e => hk2.block g fun e2 => by
      have := (rowS_lt hown g e).1
      have := h.lt
      omega
  · have h1 := hg.size
    have h2 := hk2.size
    have h3 := h.le
    simp at h1
    omega

/-- What memo has come to keep: what it kept, and the pages ps. -/
def Mmo (M M' : Int → Option (Option Lf9)) (ps : List Int) : Prop := ∀ q, (M' q).isSome = ((M q).isSome || decide (q ∈ ps))
theorem Mmo.refl (M : Int → Option (Option Lf9)) : Mmo M M [] := fun q => by simp
theorem Mmo.add {M M' M2 : Int → Option (Option Lf9)} {ps : List Int} {p : Int} {z : Option Lf9} (h : Mmo M M' ps) (h1 : M2 p = some z) (h2 : ∀ q, q ≠ p → M2 q = M' q) : Mmo M M2 (ps ++ [p]) := fun q => by
  by_cases e : q = p
  · subst e; rw [h1]; simp
  · rw [h2 q e, h q]; simp [e]
theorem Mmo.trans {M M' M2 : Int → Option (Option Lf9)} {ps qs : List Int} (h : Mmo M M' ps) (k : Mmo M' M2 qs) : Mmo M M2 (ps ++ qs) := fun q => by
  rw [k q, h q]; simp [Bool.or_assoc]

/-- What memo holds. -/
def MmS (W : World) (x c : Nat) (N : List Nd) (M : Int → Option (Option Lf9)) (ps : List Int) : Prop := ∃ c' M', IsMm W x c' N M' ∧ c' ≤ c + ps.length ∧ Mmo M M' ps
theorem MmS.old {W W' : World} {x c : Nat} {N : List Nd} {M : Int → Option (Option Lf9)} {ps : List Int} (h : MmS W x c N M ps) (hk : KeptIn (· < W.heap.size) W W') : MmS W' x c N M ps := by
  obtain ⟨c', M', h1, h2, h3⟩ := h
  exact ⟨c', M', h1.old hk, h2, h3⟩
theorem MmS.met {V V' : World} {S B0 x c : Nat} {N : List Nd} {M : Int → Option (Option Lf9)} {u v : Value} {ms ps : List Int} (h : MmS V x c N M ps) (hs : SvU V S u B0 v ms) (hk : KeptIn (SdX V S v) V V') : MmS V' x c N M ps := by
  obtain ⟨c', M', h1, h2, h3⟩ := h
  exact ⟨c', M', h1.met hs hk, h2, h3⟩

/-- The pages of a subtree are met, their nodes kept. -/
def SoQ (w : World) (S s B0 x c : Nat) (N : List Nd) (M : Int → Option (Option Lf9)) (ms ps : List Int) (e : Ending) (w' : World) : Prop :=
  ∃ v, e = .returned (.bool true) ∧ SvU w' S (mmI s x) B0 v (ms ++ ps) ∧ MmS w' x c N M ps ∧ KeptIn (SdZ w S B0 x) w w'

/-- What stands behind the append to the pages met. -/
def SoM9 (w : World) (S s B0 xm c y p room : Nat) (N : List Nd) (D : Nat → Prop) (M : Int → Option (Option Lf9)) (root : Bool) (lv : Int) (lo hi : Nat) (ms : List Int) (V : World) : Prop :=
  ∃ v, SvU V S (mmI s xm) B0 v ms ∧ BoxD y p root lv lo hi V ∧ IsSh V s room N D ∧ (∀ k, D k → k < S ∧ k ≠ xm) ∧ KeptIn (SdZ w S B0 xm) w V ∧ w.heap.size ≤ y ∧ IsMm V xm c N M

theorem so_met9 {w V w1 : World} {S s B0 xm c y p room m cap gg cap' : Nat} {N : List Nd} {D : Nat → Prop} {M : Int → Option (Option Lf9)} {root : Bool} {lv : Int} {lo hi : Nat} {ms : List Int} {a : Option Addr} {o : Obj}
    (hsv : SvU V S (mmI s xm) B0 (.slice a m cap) ms) (hb : BoxD y p root lv lo hi V) (hsh : IsSh V s room N D) (hD : ∀ k, D k → k < S ∧ k ≠ xm) (hk : KeptIn (SdZ w S B0 xm) w V) (hx : w.heap.size ≤ y) (hmm : IsMm V xm c N M) (hm : ms.length = m)
    (hg : (V.alloc o).grownBy w1 (Value.slice a m cap).ownBlock) (hown : w1.ownsRow B0 3 1 (.slice (some ⟨gg, 0, none⟩) (m + 1) cap') (m + 1) (cellsI ms ++ [.int .i64 (p : Int)])) :
    SoM9 w S s B0 xm c y p room N D M root lv lo hi (ms ++ [(p : Int)]) (w1.setCell ⟨S, 1, none⟩ (.slice (some ⟨gg, 0, none⟩) (m + 1) cap')) := by
  have h1 : KeptIn (SdX V S (.slice a m cap)) V (w1.setCell ⟨S, 1, none⟩ (.slice (some ⟨gg, 0, none⟩) (m + 1) cap')) := sd_kept (m := m) (S := S) (v := .slice a m cap) hg
  have hz : KeptIn (SdZ V S B0 xm) V (w1.setCell ⟨S, 1, none⟩ (.slice (some ⟨gg, 0, none⟩) (m + 1) cap')) := h1.mono fun k hk => sdx_z hsv hk
  exact ⟨_, sdu_at hsv hm hg hown, hb.kept hz (sdz_cells hsv hmm hb (by decide) (by decide)), sdz_sh hsv hsh hD hz, hD, sdz_trans hk hz, hx, hmm.met hsv h1⟩

/-- What stands at the loop over a node's kids. -/
structure SoF9 (w : World) (S s B0 xm c z y p g n cg : Nat) (room : Nat) (N : List Nd) (D : Nat → Prop) (M : Int → Option (Option Lf9)) (qs : List Int) (root : Bool) (lv : Int) (lo hi : Nat) (L : Int) (ps : Pairs) (v : Value) (ms : List Int) (V : World) : Prop where
  sv : SvU V S (mmI s xm) B0 v ms
  lead : BoxD z p root lv lo hi V
  leaf : BoxL y L (some ⟨g, 0, none⟩) n cg V
  isps : IsPs V (some ⟨g, 0, none⟩) ps
  ty : TyP V g
  sh : IsSh V s room N D
  dS : ∀ k, D k → k < S ∧ k ≠ xm
  kept : KeptIn (SdZ w S B0 xm) w V
  len : ps.length = n
  mm : MmS V xm c N M qs
theorem SoF9.go {w V V' : World} {S s B0 xm c z y p g n cg room : Nat} {N : List Nd} {D : Nat → Prop} {M : Int → Option (Option Lf9)} {qs qs' : List Int} {root : Bool} {lv : Int} {lo hi : Nat} {L : Int} {ps : Pairs} {v v' : Value} {ms ms' : List Int} (h : SoF9 w S s B0 xm c z y p g n cg room N D M qs root lv lo hi L ps v ms V) (hk : KeptIn (SdZ V S B0 xm) V V') (hv : SvU V' S (mmI s xm) B0 v' ms') (hq : MmS V' xm c N M qs') : SoF9 w S s B0 xm c z y p g n cg room N D M qs' root lv lo hi L ps v' ms' V' := by
  obtain ⟨c', M', hm, _, _⟩ := h.mm
  obtain ⟨cs, fr, hb⟩ := h.ty
  have hg : SdZ V S B0 xm g := sdz_cells h.sv hm hb (by decide) (by decide)
  exact ⟨hv, h.lead.kept hk (sdz_cells h.sv hm h.lead (by decide) (by decide)), h.leaf.kept hk (sdz_cells h.sv hm h.leaf (by decide) (by decide)), psAt h.isps hk (fun p e => by cases e; exact hg),
    ⟨cs, fr, (hk.block g hg).trans hb⟩, sdz_sh h.sv h.sh h.dS hk, h.dS, sdz_trans h.kept hk, h.len, hq⟩
theorem SoF9.old {w V V' : World} {S s B0 xm c z y p g n cg room : Nat} {N : List Nd} {D : Nat → Prop} {M : Int → Option (Option Lf9)} {qs : List Int} {root : Bool} {lv : Int} {lo hi : Nat} {L : Int} {ps : Pairs} {v : Value} {ms : List Int} (h : SoF9 w S s B0 xm c z y p g n cg room N D M qs root lv lo hi L ps v ms V) (hk : KeptIn (· < V.heap.size) V V') : SoF9 w S s B0 xm c z y p g n cg room N D M qs root lv lo hi L ps v ms V' := h.go (sdz_old hk) (h.sv.old hk) (h.mm.old hk)

end Go.Proofs.Ytdbohcdjamhdjaa
/- Package tree's survey over a memo: what a node's read leaves; the loop over its kids. -/
set_option linter.unusedVariables false
namespace Go.Proofs.Ytdbohcdjamhdjaa
open Go.RowKit

theorem IsMm.at {W : World} {x c i g n cap : Nat} {lv : Int} {N : List Nd} {M : Int → Option (Option Lf9)} (h : IsMm W x c N M) (hi : i < N.length) (hz : M ((i + 1 : Nat) : Int) = some (some (lv, g, n, cap))) : IsPs W (some ⟨g, 0, none⟩) N[i].2 ∧ TyP W g := by
  obtain ⟨i', hi', g', cap', q1, q2, q3, q4⟩ := h.node _ _ hz
  obtain rfl : i = i' := by omega
  simp only [Option.some.injEq, Prod.mk.injEq] at q2
  obtain ⟨_, rfl, _, _⟩ := q2
  exact ⟨q3, q4.1⟩

theorem so_read9 {w wc V0 V : World} {S s B0 xm c c' z y g n cg room i : Nat} {N : List Nd} {D : Nat → Prop} {M M' : Int → Option (Option Lf9)} {root : Bool} {lv : Int} {lo hi : Nat} {L : Int} {ms : List Int}
    (h : SoM9 w S s B0 xm c z (i + 1) room N D M root lv lo hi ms wc) (hix : i < N.length) (hk0 : KeptIn (· < wc.heap.size) wc V0) (hy : y = wc.heap.size) (hy0 : BoxL y 0 none 0 0 V0) (hk : KeptIn (fun j => j < V0.heap.size ∧ j ≠ xm) V0 V)
    (hm : IsMm V xm c' N M') (hz : M' ((i + 1 : Nat) : Int) = some (some (L, g, n, cg))) (hq : ∀ q, q ≠ ((i + 1 : Nat) : Int) → M' q = M q) (hc : c' ≤ c + 1) (hn : N[i].2.length = n) :
    ∃ v, SoF9 w S s B0 xm c z y (i + 1) g n cg room N D M [((i + 1 : Nat) : Int)] root lv lo hi L N[i].2 v ms ((V.setCell ⟨y, 0, none⟩ (.int .i64 L)).setCell ⟨y, 1, none⟩ (.slice (some ⟨g, 0, none⟩) n cg)) := by
  obtain ⟨v, h1, h2, h3, h4, h5, h6, h7⟩ := h
  obtain ⟨hps, hty⟩ := hm.at hix hz
  have h70 := h7.old hk0
  have hb := hy0.kept hk ⟨hy0.lt, h70.map.ne hy0⟩
  have hset := hb.set (lv' := L) (a' := some ⟨g, 0, none⟩) (n' := n) (cap' := cg)
  have hgy : g ≠ y := fun e => by
    obtain ⟨cs, fr, h8⟩ := hty
    rw [e, show V.heap[y]? = _ from hb] at h8
    simp only [Option.some.injEq, Obj.cells.injEq] at h8
    exact absurd h8.2.1 (by decide)
  have hkr : KeptIn (fun j => j < wc.heap.size ∧ j ≠ xm) wc V := (hk0.mono fun j h => h.1).trans (hk.mono fun j h => ⟨Nat.lt_of_lt_of_le h.1 hk0.size, h.2⟩)
  have hkf : KeptIn (fun j => j < wc.heap.size ∧ j ≠ xm) wc ((V.setCell ⟨y, 0, none⟩ (.int .i64 L)).setCell ⟨y, 1, none⟩ (.slice (some ⟨g, 0, none⟩) n cg)) := (hkr.setCell (p := ⟨y, 0, none⟩) (by simp; omega) _).setCell (p := ⟨y, 1, none⟩) (by simp; omega) _
  have hs0 : BoxL y L none 0 0 (V.setCell ⟨y, 0, none⟩ (.int .i64 L)) := (heap_setCell_same _ _ _ _ _ _ hb).trans rfl
  refine ⟨v, h1.read h7 hkf, h2.kept hkf ⟨h2.lt, h7.map.ne h2⟩, hset, ?_, ?_, sdz_sh h1 h3 h4 (sdz_read hkf), h4, sdz_trans h5 (sdz_read hkf), hn, c', M', (hm.set hb 0 _).set hs0 1 _, by simpa using hc, ?_⟩
  · exact psSet (psSet hps ⟨y, 0, none⟩ _ (fun p e => by cases e; exact hgy)) ⟨y, 1, none⟩ _ (fun p e => by cases e; exact hgy)
  · obtain ⟨cs, fr, hb⟩ := hty
    exact ⟨cs, fr, (heap_setCell_other _ _ _ _ hgy).trans ((heap_setCell_other _ _ _ _ hgy).trans hb)⟩
  · exact (Mmo.refl M).add hz hq

theorem so_read29 {w wc V : World} {S s B0 xm c c' z g n cg room i : Nat} {N : List Nd} {D : Nat → Prop} {M M' : Int → Option (Option Lf9)} {root : Bool} {lv : Int} {lo hi : Nat} {L : Int} {ms : List Int}
    (h : SoM9 w S s B0 xm c z (i + 1) room N D M root lv lo hi ms wc) (hix : i < N.length) (hk : KeptIn (fun j => j < wc.heap.size ∧ j ≠ xm) wc V)
    (hm : IsMm V xm c' N M') (hz : M' ((i + 1 : Nat) : Int) = some (some (L, g, n, cg))) (hq : ∀ q, q ≠ ((i + 1 : Nat) : Int) → M' q = M q) (hc : c' ≤ c + 1) (hn : N[i].2.length = n) :
    ∃ v, SoF9 w S s B0 xm c z V.heap.size (i + 1) g n cg room N D M [((i + 1 : Nat) : Int)] root lv lo hi L N[i].2 v ms (V.alloc (.cells #[.int .i64 L, .slice (some ⟨g, 0, none⟩) n cg] 27)) := by
  obtain ⟨v, h1, h2, h3, h4, h5, h6, h7⟩ := h
  obtain ⟨hps, hty⟩ := hm.at hix hz
  have hka : KeptIn (· < V.heap.size) V (V.alloc (.cells #[.int .i64 L, .slice (some ⟨g, 0, none⟩) n cg] 27)) := (KeptIn.refl _ V).alloc (fun _ h => h) _
  have hkf : KeptIn (fun j => j < wc.heap.size ∧ j ≠ xm) wc (V.alloc (.cells #[.int .i64 L, .slice (some ⟨g, 0, none⟩) n cg] 27)) := hk.trans (hka.mono fun j h => Nat.lt_of_lt_of_le h.1 hk.size)
  exact ⟨v, h1.read h7 hkf, h2.kept hkf ⟨h2.lt, h7.map.ne h2⟩, BoxL.new V _ _ _ _, hps.old hka, hty.old hka, sdz_sh h1 h3 h4 (sdz_read hkf), h4, sdz_trans h5 (sdz_read hkf), hn, c', M', hm.old hka, by simpa using hc, (Mmo.refl M).add hz hq⟩

/-- What stands in the loop over a node's kids. -/
def SoK9 (w : World) (S s B0 xm c z y p g n cg room : Nat) (N : List Nd) (D : Nat → Prop) (M : Int → Option (Option Lf9)) (root : Bool) (lv : Int) (lo hi : Nat) (L : Int) (ps qs : Pairs) (l : Nat) (g0 : List Nat) (ms1 : List Int) (j : Nat) (W : World) : Prop :=
  ∃ v qa qb ga gb, j ≤ n ∧ qs = qa ++ qb ∧ g0 = ga ++ gb ∧ Kids (Snd N l) (ps.take j) qa ga ∧ Kids (Snd N l) (ps.drop j) qb gb ∧ SoF9 w S s B0 xm c z y p g n cg room N D M ((p : Int) :: ofP ga) root lv lo hi L ps v (ms1 ++ ofP ga) W

end Go.Proofs.Ytdbohcdjamhdjaa
/- Package tree's survey over a memo: a kid's turn, the loop's end. -/
set_option linter.unusedVariables false
namespace Go.Proofs.Ytdbohcdjamhdjaa
open Go.RowKit

theorem MmS.trans {W' : World} {x c c' : Nat} {N : List Nd} {M M' : Int → Option (Option Lf9)} {ps qs : List Int} (hc : c' ≤ c + ps.length) (hm : Mmo M M' ps) (k : MmS W' x c' N M' qs) : MmS W' x c N M (ps ++ qs) := by
  obtain ⟨c2, M2, h1, h2, h3⟩ := k
  exact ⟨c2, M2, h1, by rw [List.length_append]; omega, hm.trans h3⟩

theorem SoK9.kid {w W : World} {S s B0 xm c z y p g n cg room j l : Nat} {N : List Nd} {D : Nat → Prop} {M : Int → Option (Option Lf9)} {root : Bool} {lv : Int} {lo hi : Nat} {L : Int} {ps qs : Pairs} {g0 : List Nat} {ms1 : List Int}
    (h : SoK9 w S s B0 xm c z y p g n cg room N D M root lv lo hi L ps qs l g0 ms1 j W) (hS : SndL N root lv lo hi (l + 1) p ps qs g0) (hl : l + 1 ≤ 7) (hN : N.length ≤ 511) (hn : ps.length = n) (hj : j < n) (hnd : (ms1 ++ ofP g0).Nodup) (hml : ms1.length + g0.length ≤ 511) :
    ∃ v ms2 ps' q2 g' c' M' qs', SoF9 w S s B0 xm c z y p g n cg room N D M qs' root lv lo hi L ps v ms2 W ∧ IsMm W xm c' N M' ∧ c' ≤ c + qs'.length ∧ Mmo M M' qs' ∧ c' + (1 + g'.length) ≤ c + (1 + g0.length) ∧ SndL N false (l : Int) (keyAt ps j) (highOf ps j hi) l (valAt ps j) ps' q2 g' ∧ ps'.length ≤ 15 ∧ (ms2 ++ ofP (valAt ps j :: g')).Nodup ∧ ms2.length + (1 + g'.length) ≤ 511 ∧
      ∀ v' W', SoF9 w S s B0 xm c z y p g n cg room N D M (qs' ++ ofP (valAt ps j :: g')) root lv lo hi L ps v' (ms2 ++ ofP (valAt ps j :: g')) W' → SoK9 w S s B0 xm c z y p g n cg room N D M root lv lo hi L ps qs l g0 ms1 (j + 1) W' := by
  obtain ⟨v, qa, qb, ga, gb, h1, e, eg, ka, kb, hF⟩ := h
  have hjp : j < ps.length := by omega
  have ed : ps.drop j = (keyAt ps j, valAt ps j) :: ps.drop (j + 1) := by
    rw [List.drop_eq_getElem_cons hjp, keyAt_get hjp, valAt_get hjp]
  rw [ed] at kb
  obtain ⟨q2, q3, g2, g3, e2, eg2, s1, s2, s3, k3⟩ := kb
  obtain ⟨ps', g', eg', hc, hc15⟩ := hS.kidAt hl hN j hjp (q1 := qa) (q2 := q2) (q3 := q3) (by rw [e, e2, List.append_assoc]) s1 s2 s3 k3
  have hlen : g0.length = ga.length + (1 + g'.length + g3.length) := by rw [eg, eg2, eg', List.length_append, List.length_append, List.length_cons]; omega
  obtain ⟨c', M', hm, hcc, hmo⟩ := hF.mm
  have hcc2 : c' ≤ c + (ga.length + 1) := by
    rw [List.length_cons, List.length_map] at hcc
    exact hcc
  refine ⟨v, ms1 ++ ofP ga, ps', q2, g', c', M', (p : Int) :: ofP ga, hF, hm, hcc, hmo, by omega, hc, hc15, ?_, ?_, fun v' W' hF' => ⟨v', qa ++ q2, q3, ga ++ g2, g3, by omega, by rw [e, e2, List.append_assoc], by rw [eg, eg2, List.append_assoc], ?_, k3, ?_⟩⟩
  · rw [eg, eg2, eg', ofP_append, ofP_append, ← List.append_assoc, ← List.append_assoc] at hnd
    exact (List.nodup_append.1 hnd).1
  · rw [List.length_append, List.length_map]; omega
  · have : ps.take (j + 1) = ps.take j ++ [(keyAt ps j, valAt ps j)] := by
      rw [List.take_add_one, List.getElem?_eq_getElem hjp, keyAt_get hjp, valAt_get hjp]; rfl
    rw [this]
    exact ka.append ⟨q2, [], g2, [], by simp, by simp, s1, s2, s3, rfl, rfl⟩
  · rw [ofP_append, eg', ← List.append_assoc]
    exact hF'

theorem SoK9.fin {w W : World} {S s B0 xm c z y p g n cg room j l : Nat} {N : List Nd} {D : Nat → Prop} {M : Int → Option (Option Lf9)} {root : Bool} {lv : Int} {lo hi : Nat} {L : Int} {ps qs : Pairs} {g0 : List Nat} {ms : List Int}
    (h : SoK9 w S s B0 xm c z y p g n cg room N D M root lv lo hi L ps qs l g0 (ms ++ [(p : Int)]) j W) (hn : ps.length = n) (hj : ¬ j < n) : SoQ w S s B0 xm c N M ms (ofP (p :: g0)) (.returned (.bool true)) W := by
  obtain ⟨v, qa, qb, ga, gb, h1, e, eg, ka, kb, hF⟩ := h
  have : ps.drop j = [] := List.drop_eq_nil_iff.2 (by omega)
  rw [this] at kb
  obtain ⟨_, rfl⟩ := kb
  rw [List.append_nil] at eg
  subst eg
  have e2 : ms ++ [(p : Int)] ++ ofP g0 = ms ++ ofP (p :: g0) := by rw [List.append_assoc]; rfl
  have hs := hF.sv
  rw [e2] at hs
  exact ⟨v, rfl, hs, hF.mm, hF.kept⟩

theorem z_go {a b c : World} {x : Nat} (h : KeptIn (· < a.heap.size) a b) (k : KeptIn (fun j => j < b.heap.size ∧ j ≠ x) b c) : KeptIn (fun j => j < a.heap.size ∧ j ≠ x) a c := (h.mono fun j e => e.1).trans (k.mono fun j e => ⟨Nat.lt_of_lt_of_le e.1 h.size, e.2⟩)

theorem so_read9p {w wc V0 V : World} {S s B0 xm c c' z y p g n cg room i : Nat} {N : List Nd} {D : Nat → Prop} {M M' : Int → Option (Option Lf9)} {root : Bool} {lv : Int} {lo hi : Nat} {L : Int} {ps : Pairs} {ms : List Int}
    (h : SoM9 w S s B0 xm c z p room N D M root lv lo hi ms wc) (hix : i < N.length) (hp : i + 1 = p) (he : N[i].2 = ps) (hk0 : KeptIn (· < wc.heap.size) wc V0) (hy : y = wc.heap.size) (hy0 : BoxL y 0 none 0 0 V0) (hk : KeptIn (fun j => j < V0.heap.size ∧ j ≠ xm) V0 V)
    (hm : IsMm V xm c' N M') (hz : M' (p : Int) = some (some (L, g, n, cg))) (hq : ∀ q, q ≠ (p : Int) → M' q = M q) (hc : c' ≤ c + 1) (hn : ps.length = n) :
    ∃ v, SoF9 w S s B0 xm c z y p g n cg room N D M [(p : Int)] root lv lo hi L ps v ms ((V.setCell ⟨y, 0, none⟩ (.int .i64 L)).setCell ⟨y, 1, none⟩ (.slice (some ⟨g, 0, none⟩) n cg)) := by
  subst hp he
  exact so_read9 h hix hk0 hy hy0 hk hm hz hq hc hn
theorem so_read29p {w wc V : World} {S s B0 xm c c' z p g n cg room i : Nat} {N : List Nd} {D : Nat → Prop} {M M' : Int → Option (Option Lf9)} {root : Bool} {lv : Int} {lo hi : Nat} {L : Int} {ps : Pairs} {ms : List Int}
    (h : SoM9 w S s B0 xm c z p room N D M root lv lo hi ms wc) (hix : i < N.length) (hp : i + 1 = p) (he : N[i].2 = ps) (hk : KeptIn (fun j => j < wc.heap.size ∧ j ≠ xm) wc V)
    (hm : IsMm V xm c' N M') (hz : M' (p : Int) = some (some (L, g, n, cg))) (hq : ∀ q, q ≠ (p : Int) → M' q = M q) (hc : c' ≤ c + 1) (hn : ps.length = n) :
    ∃ v, SoF9 w S s B0 xm c z V.heap.size p g n cg room N D M [(p : Int)] root lv lo hi L ps v ms (V.alloc (.cells #[.int .i64 L, .slice (some ⟨g, 0, none⟩) n cg] 27)) := by
  subst hp he
  exact so_read29 h hix hk hm hz hq hc hn

theorem SoM9.facts {w V V' : World} {S s B0 xm c z p room : Nat} {N : List Nd} {D : Nat → Prop} {M : Int → Option (Option Lf9)} {root : Bool} {lv : Int} {lo hi : Nat} {ms : List Int} (h : SoM9 w S s B0 xm c z p room N D M root lv lo hi ms V) (hk : KeptIn (fun j => j < V.heap.size ∧ j ≠ xm) V V') :
    V'.cell? ⟨S, 0, none⟩ = some (mmI s xm) ∧ V'.cell? ⟨z, 0, none⟩ = some (.int .i64 (p : Int)) ∧ V'.cell? ⟨z, 1, none⟩ = some (.bool root) ∧ V'.cell? ⟨z, 2, none⟩ = some (.int .i64 lv) ∧ V'.cell? ⟨z, 3, none⟩ = some (.int .u64 (lo : Int)) ∧ V'.cell? ⟨z, 4, none⟩ = some (.int .u64 (hi : Int)) := by
  obtain ⟨v, h1, h2, _, _, _, _, h7⟩ := h
  have hs := (h1.read h7 hk).box
  have hb := h2.kept hk ⟨h2.lt, h7.map.ne h2⟩
  exact ⟨(cell_of_row _ _ 0 _ _ _ hs).trans rfl, hb.c0, hb.c1, hb.c2, hb.c3, hb.c4⟩

end Go.Proofs.Ytdbohcdjamhdjaa
/- Package tree's mayBeSound over a memo: over a sound tree it meets all pages, and keeps their nodes. -/
set_option linter.unusedVariables false
namespace Go.Proofs.Ytdbohcdjamhdjaa
open Go.RowKit


set_option maxRecDepth 100000 in
set_option maxHeartbeats 4000000 in
theorem trSoundM {N : List Nd} (hN : N.length ≤ 511) (hfit : ∀ (i : Nat) (h : i < N.length), Fits N[i].2) (s room xm : Nat) : ∀ {l : Nat} {root : Bool} {lv : Int} {lo hi p : Nat} {ps qs : Pairs} {g0 : List Nat} {w : World} {D : Nat → Prop} {S B0 c : Nat} {v : Value} {ms : List Int} {M : Int → Option (Option Lf9)}, IsSh w s room N D → (∀ k, D k → k < S ∧ k ≠ xm) → SvU w S (mmI s xm) B0 v ms → IsMm w xm c N M → SndL N root lv lo hi l p ps qs g0 → l ≤ 7 → ps.length ≤ 15 → hi < 18446744073709551616 → (ms ++ ofP (p :: g0)).Nodup → ms.length + (1 + g0.length) ≤ 511 → c + (1 + g0.length) ≤ 100000 →
    Calls Try.prog 57 #[.pointer (some ⟨S, 0, none⟩), leadV p root lv lo hi] w (SoQ w S s B0 xm c N M ms (ofP (p :: g0))) := by
  intro l
  induction l with
  | zero =>
    intro root lv lo hi p ps qs g0 w D S B0 c v ms M hsh hD h hmm0 hS hl7 h15 hhi hnd hml hcb
    obtain ⟨hb1, hb2⟩ := hS.body
    subst hb1 hb2
    obtain ⟨ix, hix, hqi, hni⟩ := nodeOf_at hS.node
    obtain ⟨a, cap, rfl⟩ := row_sliceI h.row
    obtain ⟨m, hm⟩ : ∃ m, ms.length = m := ⟨_, rfl⟩
    rw [hm] at h hml
    obtain ⟨W, hW⟩ : ∃ W, w.alloc (.cells #[.int .i64 (p : Int), .bool root, .int .i64 lv, .int .u64 (lo : Int), .int .u64 (hi : Int)] 111) = W := ⟨_, rfl⟩
    have hkW : KeptIn (· < w.heap.size) w W := by rw [← hW]; exact (KeptIn.refl _ w).alloc (fun _ h => h) _
    have hbd : BoxD w.heap.size p root lv lo hi W := by rw [← hW]; exact BoxD.new w p root lv lo hi
    have hsv := h.old hkW
    have hmm := hmm0.old hkW
    have hshW := hsh.old hkW
    have hSW : W.heap[S]? = some (.cells #[mmI s xm, .slice a m cap, .int .i64 0] 125 (0, 0)) := hsv.box
    have c0 : W.cell? ⟨S, 0, none⟩ = some (mmI s xm) := (cell_of_row _ _ 0 _ _ _ hSW).trans rfl
    have c1 : W.cell? ⟨S, 1, none⟩ = some (.slice a m cap) := (cell_of_row _ _ 1 _ _ _ hSW).trans rfl
    have hp : (p : Int) ∉ ms := by
      intro hin
      have := (List.nodup_append.1 hnd).2.2 _ hin _ (List.mem_map.2 ⟨p, List.mem_cons_self, rfl⟩)
      exact this rfl
    have hrowW : W.ownsRow B0 3 1 (.slice a m cap) m (cellsI ms) := by have := hsv.row; rw [hm] at this; exact this
    have hI : IntsL W a ms := by
      have h1 := hrowW
      rw [← hm] at h1
      exact rowIntsL h1 (by unfold maxLen; omega)
    have HQ := Lib.hid fun n => iContQ hI (x := (p : Int)) (cap := cap) hm (decide_eq_false hp) n
    have d0 := hbd.c0
    have d1 := hbd.c1
    have d2 := hbd.c2
    have d3 := hbd.c3
    have d4 := hbd.c4
    obtain ⟨x, hx⟩ : ∃ x, w.heap.size = x := ⟨_, rfl⟩
    have HG : Hid (∀ (nq : Nat) (w1 : World), (((W.drewN nq).drew).alloc (.cells #[.int .i64 (p : Int)] 3)).grownBy w1 (Value.slice a m cap).ownBlock → w1.cell? ⟨S, 1, none⟩ = some (.slice a m cap) ∧ w1.frozen? ⟨S, 1, none⟩ = false) := Lib.hid fun nq w1 hg => by
      have hSlt : S < W.heap.size := Nat.lt_of_lt_of_le hsv.lt hsv.le
      have hn := rowS_ne hrowW hSW (by decide)
      have h1 : w1.heap[S]? = W.heap[S]? := (hg.block _ (by simp; exact Nat.lt_succ_of_lt hSlt) (fun e => hn e.symm)).trans (Lib.alloc_old ((W.drewN nq).drew) _ _ hSlt)
      exact ⟨(World.cell?_of_block (a := ⟨S, 1, none⟩) h1).trans ((cell_of_row _ _ 1 _ _ _ hSW).trans rfl), (World.frozen?_of_block (a := ⟨S, 1, none⟩) h1).trans (by simp [World.frozen?, hSW])⟩
    have HM : Hid (∀ (nq : Nat) (w1 : World) (gg cap' : Nat), (((W.drewN nq).drew).alloc (.cells #[.int .i64 (p : Int)] 3)).grownBy w1 (Value.slice a m cap).ownBlock → w1.ownsRow B0 3 1 (.slice (some ⟨gg, 0, none⟩) (m + 1) cap') (m + 1) (cellsI ms ++ [.int .i64 (p : Int)]) →
        SoM9 w S s B0 xm c x p room N D M root lv lo hi (ms ++ [(p : Int)]) (w1.setCell ⟨S, 1, none⟩ (.slice (some ⟨gg, 0, none⟩) (m + 1) cap'))) := Lib.hid fun nq w1 gg cap' hg hown => by
      refine so_met9 (V := (W.drewN nq).drew) ⟨hsv.box, hsv.row, hsv.lt, hsv.le⟩ ?_ (hshW.old ((KeptIn.refl _ W).drewN nq).drew) hD (sdz_old (hkW.drewN nq).drew) (Nat.le_of_eq hx) (hmm.old ((KeptIn.refl _ W).drewN nq).drew) hm hg hown
      rw [hx] at hbd
      exact hbd
    have hB0 : B0 ≤ W.heap.size := hsv.le
    have hS0 : S < B0 := hsv.lt
    have HROW := Lib.hid hrowW
    have hSx : S ≠ x := by rw [← hx]; have := h.lt; have := h.le; omega
    have HRD : Hid (∀ V, IsMm V xm c N M → IsSh V s room N D → Calls Try.prog 47 #[leadV p root lv lo hi, mmI s xm] V (MmR V xm c N M (p : Int) (0 : Int) ps)) := Lib.hid fun V hV hV2 => by
      have := trLeadReadM hV hV2 (by omega) ix hix (hfit ix hix) root lv lo hi (by rw [hni]; exact hS.fit)
      rw [hqi, hni] at this
      try rw [hLV] at this
      exact this
    have HIX : Hid (∃ (i : Nat) (h : i < N.length), i + 1 = p ∧ N[i].2 = ps) := Lib.hid ⟨ix, hix, hqi, by rw [hni]⟩
    obtain ⟨ip, hip, hp0, hp1, hp2⟩ := info_parts infoInt8
    obtain ⟨n, hn⟩ : ∃ n, ps.length = n := ⟨_, rfl⟩
    have HN := Lib.hid hn
    have HML := Lib.hid hm
    have HH := Lib.hid (And.intro hsh (And.intro hD (And.intro hS (And.intro hnd (And.intro hml (And.intro hl7 hcb))))))
    clear hrowW hshW hsv hkW hbd hp hI hSW h hsh hD hS hnd hix hqi hni hn hm hmm hmm0 hcb
    unfold mmI mmV pgV leadV at *
    rw [hx] at d0 d1 d2 d3 d4
    go_enter Try.func57, Try.ntmps57
    go_wp2_with fail
    go_quiet ((go_at_call 79; exact Calls.quiet_of_same (HQ.out _)))
    go_upto_region 3 with fail
    go_cut [] from 8 (fun wx => Hid (SoM9 w S s B0 xm c x p room N D M root lv lo hi (ms ++ [(p : Int)]) wx))
    case first =>
      go_wp2_with fail
      have c1' : ((W.drewN nq).drew).cell? ⟨S, 1, none⟩ = some (.slice a m cap) := c1
      have x0' : ((W.drewN nq).drew).cell? ⟨x, 0, none⟩ = some (.int .i64 (p : Int)) := d0
      have hrow8 : ((W.drewN nq).drew).ownsRow B0 3 1 (.slice a m cap) m (cellsI ms) := HROW.out
      have hsz8 : B0 ≤ ((W.drewN nq).drew).heap.size := hB0
      have hSV : S < ((W.drewN nq).drew).heap.size := Nat.lt_of_lt_of_le hS0 hB0
      have cc8 : (((W.drewN nq).drew).alloc (.cells #[.int .i64 (p : Int)] 3)).cell? ⟨S, 1, none⟩ = some (.slice a m cap) := (World.cell?_of_block (a := ⟨S, 1, none⟩) (Lib.alloc_old ((W.drewN nq).drew) _ _ hSV)).trans c1
      have hgr8 := HG.out nq
      have hme8 := HM.out nq
      obtain ⟨V, hV⟩ : ∃ V, (W.drewN nq).drew = V := ⟨_, rfl⟩
      rw [hV] at c1' x0' hrow8 hsz8 hgr8 cc8 hme8
      clear hSV
      go_region_law (first
        | (refine step_append_lies _ (by rfl) _ _ 23 (by rfl) B0 3 ip _ 1 8 Try.underlying23 hip hp0 hp1 hp2 rfl (by omega) (.slice a m cap) m _ (by rfl) (hrow8.alloc _) ⟨V.heap.size, 0, none⟩ 1 1 [.int .i64 (p : Int)] (by rfl) (by rfl) (World.news_of_block (cs := #[.int .i64 (p : Int)]) (t := 3) (fr := (0, 0)) (heap_alloc_new V _)) (by simp [Value.oneCell']) (by omega) (by unfold maxLen; omega) (by omega) (by simp; omega) (V.heap.size + 1) (by simp) ?_; intro gg cap' w1 hown1 hgrow hat hlt1; obtain ⟨e0', ef⟩ := hgr8 w1 hgrow; have hmm := hme8 w1 gg cap' hgrow hown1))
      all_goals
        clear hgr8 hme8 hrow8
        go_wp2_with fail
        go_meet
        case rel => exact Lib.hid hmm
    case rest =>
      have HC := hcut
      clear hcut HM HG HQ HROW c0 c1 d0 d1 d2 d3 d4
      have HF := Lib.hid fun V (hk : KeptIn (fun j => j < wc.heap.size ∧ j ≠ xm) wc V) => HC.out.facts hk
      obtain ⟨c0, d0, d1, d2, d3, d4⟩ := HC.out.facts (KeptIn.refl _ wc)
      have HRC : Hid (∀ V, KeptIn (· < wc.heap.size) wc V → _) := Lib.hid fun V hk => HRD.out V (HC.out.choose_spec.2.2.2.2.2.2.old hk) (HC.out.choose_spec.2.2.1.old hk)
      have HXW : Hid (xm < wc.heap.size) := Lib.hid HC.out.choose_spec.2.2.2.2.2.2.lt
      unfold mmI mmV pgV at HF c0
      go_upto_region 4 with fail
      go_cut [5, 6] from 8 (fun s5 s6 wx => ∃ y g cg : Nat, s5 = .pointer (some ⟨y, 0, none⟩) ∧ s6 = .int .i64 0 ∧ Hid (∃ v, SoF9 w S s B0 xm c x y p g n cg room N D M [(p : Int)] root lv lo hi 0 ps v (ms ++ [(p : Int)]) wx))
      case first =>
        go_wp2_with fail
        go_region_held3 (fun w' => w'.cell? ⟨S, 0, none⟩ = some (.iface 66 (.agg #[.iface 28 (.pointer (some ⟨s, 0, none⟩)), .map (some xm)])) ∧ w'.cell? ⟨x, 0, none⟩ = some (.int .i64 (p : Int)) ∧ w'.cell? ⟨x, 1, none⟩ = some (.bool root) ∧ w'.cell? ⟨x, 2, none⟩ = some (.int .i64 lv) ∧ w'.cell? ⟨x, 3, none⟩ = some (.int .u64 (lo : Int)) ∧ w'.cell? ⟨x, 4, none⟩ = some (.int .u64 (hi : Int)))
          (first | exact ⟨c0, d0, d1, d2, d3, d4⟩ | exact HF.out _ (KeptIn.refl _ _).drew | exact HF.out _ (((KeptIn.refl _ _).alloc (fun _ h => h.1) _).drew) | exact HF.out _ (z_go (KeptIn.refl _ _).drew hk) | exact HF.out _ (z_go (((KeptIn.refl _ _).alloc (fun _ h => h) _).drew) hk) | exact HF.out _ ((z_go (KeptIn.refl _ _).drew hk).alloc (fun _ h => h.1) _) | exact HF.out _ (((z_go (KeptIn.refl _ _).drew hk).alloc (fun _ h => h.1) _).setCell (fun h => Nat.not_lt.2 hk.size h.1) _) | exact HF.out _ ((((z_go (KeptIn.refl _ _).drew hk).alloc (fun _ h => h.1) _).setCell (fun h => Nat.not_lt.2 hk.size h.1) _).setCell (fun h => Nat.not_lt.2 hk.size h.1) _) | exact HF.out _ (((z_go (((KeptIn.refl _ _).alloc (fun _ h => h) _).drew) hk).setCell (by simp) _).setCell (by simp) _))
          (first | (go_at_call 47; first | (refine (HRC.out wc.drew (KeptIn.refl _ _).drew).mono ?_; rintro e V ⟨g, cg, c', M', rfl, hmr, hz, hq, hcc, hk⟩; rw [HN.out]; rw [HN.out] at hz; unfold leafV) | (refine (HRC.out (wc.alloc (.cells #[.int .i64 0, .slice none 0 0] 27)).drew (((KeptIn.refl _ _).alloc (fun _ h => h) _).drew)).mono ?_; rintro e V ⟨g, cg, c', M', rfl, hmr, hz, hq, hcc, hk⟩; have hb9 := (show BoxL wc.heap.size 0 none 0 0 (wc.alloc (.cells #[.int .i64 0, .slice none 0 0] 27)).drew from heap_alloc_new wc _).kept (W' := V) hk ⟨Nat.lt_of_lt_of_le (Nat.lt_succ_self _) (Nat.le_of_eq (World.size_alloc _ _).symm), Nat.ne_of_gt HXW.out⟩; have e0 := hb9.c0; have e1 := hb9.c1; have g0 := hb9.f0; have g1 := hb9.f1; rw [HN.out]; rw [HN.out] at hz; unfold leafV)))
        · go_wp2_with fail
          go_meet
          case rel =>
            obtain ⟨i9, hi9, hp9, he9⟩ := HIX.out
            exact ⟨_, _, _, rfl, rfl, Lib.hid (so_read29p HC.out hi9 hp9 he9 (z_go (KeptIn.refl _ wc).drew hk) hmr hz hq hcc HN.out)⟩
        · go_wp2_with fail
          go_meet
          case rel =>
            obtain ⟨i9, hi9, hp9, he9⟩ := HIX.out
            exact ⟨_, _, _, rfl, rfl, Lib.hid (so_read9p HC.out hi9 hp9 he9 (((KeptIn.refl _ wc).alloc (fun _ h => h) _).drew) rfl (show BoxL wc.heap.size 0 none 0 0 (wc.alloc (.cells #[.int .i64 0, .slice none 0 0] 27)).drew from heap_alloc_new wc _) hk hmr hz hq hcc HN.out)⟩
      case rest =>
        obtain ⟨y, g, cg, rfl, rfl, hq⟩ := hcut
        have HQ := hq
        clear hq HC HF HRC HXW HIX c0 d0 d1 d2 d3 d4 HRD
        obtain ⟨v2, hF⟩ := HQ.out
        have y0 := hF.leaf.c0
        have y1 := hF.leaf.c1
        have HF := Lib.hid hF
        clear HQ hF
        go_wp2_with fail
        go_ret
        exact ⟨v2, rfl, HF.out.sv, HF.out.mm, HF.out.kept⟩
  | succ l ih =>
    intro root lv lo hi p ps qs g0 w D S B0 c v ms M hsh hD h hmm0 hS hl7 h15 hhi hnd hml hcb
    obtain ⟨hgood, hpos⟩ := fit_good' hS.fit
    have hval := good_vals hgood (by omega)
    have CT : ∀ (j g cg : Nat) (W : World), j < ps.length → IsPs W (some ⟨g, 0, none⟩) ps → Calls Try.prog 50 #[leafV ((l + 1 : Nat) : Int) (some ⟨g, 0, none⟩) ps.length cg, .int .i64 (j : Int), .int .u64 (hi : Int)] W fun e w' => e = .returned (leadV (valAt ps j) false (l : Int) (keyAt ps j) (highOf ps j hi)) ∧ KeptIn (· < W.heap.size) W w' := by
      intro j g cg W hj hp
      have := trToChild (l + 1) (some ⟨g, 0, none⟩) cg ps j hi W hp (good_rises hgood) hj (by omega) ⟨by omega, hl7⟩ (hval j hj).2
      rw [show ((l + 1 : Nat) : Int) - 1 = (l : Int) by omega] at this
      exact this
    have z0 : (((l + 1 : Nat) : Int) == 0) = false := by rw [beq_eq_false_iff_ne]; omega
    have z1 : ¬ ((l + 1 : Nat) : Int) = 0 := by omega
    obtain ⟨LV, hLV⟩ : ∃ LV : Int, ((l + 1 : Nat) : Int) = LV := ⟨_, rfl⟩
    rw [hLV] at z0 z1 CT
    have HCT := Lib.hid CT
    have HX := Lib.hid (And.intro h15 hhi)
    clear CT hgood hval hpos
    unfold leafV at HCT
    obtain ⟨ix, hix, hqi, hni⟩ := nodeOf_at hS.node
    obtain ⟨a, cap, rfl⟩ := row_sliceI h.row
    obtain ⟨m, hm⟩ : ∃ m, ms.length = m := ⟨_, rfl⟩
    rw [hm] at h hml
    obtain ⟨W, hW⟩ : ∃ W, w.alloc (.cells #[.int .i64 (p : Int), .bool root, .int .i64 lv, .int .u64 (lo : Int), .int .u64 (hi : Int)] 111) = W := ⟨_, rfl⟩
    have hkW : KeptIn (· < w.heap.size) w W := by rw [← hW]; exact (KeptIn.refl _ w).alloc (fun _ h => h) _
    have hbd : BoxD w.heap.size p root lv lo hi W := by rw [← hW]; exact BoxD.new w p root lv lo hi
    have hsv := h.old hkW
    have hmm := hmm0.old hkW
    have hshW := hsh.old hkW
    have hSW : W.heap[S]? = some (.cells #[mmI s xm, .slice a m cap, .int .i64 0] 125 (0, 0)) := hsv.box
    have c0 : W.cell? ⟨S, 0, none⟩ = some (mmI s xm) := (cell_of_row _ _ 0 _ _ _ hSW).trans rfl
    have c1 : W.cell? ⟨S, 1, none⟩ = some (.slice a m cap) := (cell_of_row _ _ 1 _ _ _ hSW).trans rfl
    have hp : (p : Int) ∉ ms := by
      intro hin
      have := (List.nodup_append.1 hnd).2.2 _ hin _ (List.mem_map.2 ⟨p, List.mem_cons_self, rfl⟩)
      exact this rfl
    have hrowW : W.ownsRow B0 3 1 (.slice a m cap) m (cellsI ms) := by have := hsv.row; rw [hm] at this; exact this
    have hI : IntsL W a ms := by
      have h1 := hrowW
      rw [← hm] at h1
      exact rowIntsL h1 (by unfold maxLen; omega)
    have HQ := Lib.hid fun n => iContQ hI (x := (p : Int)) (cap := cap) hm (decide_eq_false hp) n
    have d0 := hbd.c0
    have d1 := hbd.c1
    have d2 := hbd.c2
    have d3 := hbd.c3
    have d4 := hbd.c4
    obtain ⟨x, hx⟩ : ∃ x, w.heap.size = x := ⟨_, rfl⟩
    have HG : Hid (∀ (nq : Nat) (w1 : World), (((W.drewN nq).drew).alloc (.cells #[.int .i64 (p : Int)] 3)).grownBy w1 (Value.slice a m cap).ownBlock → w1.cell? ⟨S, 1, none⟩ = some (.slice a m cap) ∧ w1.frozen? ⟨S, 1, none⟩ = false) := Lib.hid fun nq w1 hg => by
      have hSlt : S < W.heap.size := Nat.lt_of_lt_of_le hsv.lt hsv.le
      have hn := rowS_ne hrowW hSW (by decide)
      have h1 : w1.heap[S]? = W.heap[S]? := (hg.block _ (by simp; exact Nat.lt_succ_of_lt hSlt) (fun e => hn e.symm)).trans (Lib.alloc_old ((W.drewN nq).drew) _ _ hSlt)
      exact ⟨(World.cell?_of_block (a := ⟨S, 1, none⟩) h1).trans ((cell_of_row _ _ 1 _ _ _ hSW).trans rfl), (World.frozen?_of_block (a := ⟨S, 1, none⟩) h1).trans (by simp [World.frozen?, hSW])⟩
    have HM : Hid (∀ (nq : Nat) (w1 : World) (gg cap' : Nat), (((W.drewN nq).drew).alloc (.cells #[.int .i64 (p : Int)] 3)).grownBy w1 (Value.slice a m cap).ownBlock → w1.ownsRow B0 3 1 (.slice (some ⟨gg, 0, none⟩) (m + 1) cap') (m + 1) (cellsI ms ++ [.int .i64 (p : Int)]) →
        SoM9 w S s B0 xm c x p room N D M root lv lo hi (ms ++ [(p : Int)]) (w1.setCell ⟨S, 1, none⟩ (.slice (some ⟨gg, 0, none⟩) (m + 1) cap'))) := Lib.hid fun nq w1 gg cap' hg hown => by
      refine so_met9 (V := (W.drewN nq).drew) ⟨hsv.box, hsv.row, hsv.lt, hsv.le⟩ ?_ (hshW.old ((KeptIn.refl _ W).drewN nq).drew) hD (sdz_old (hkW.drewN nq).drew) (Nat.le_of_eq hx) (hmm.old ((KeptIn.refl _ W).drewN nq).drew) hm hg hown
      rw [hx] at hbd
      exact hbd
    have hB0 : B0 ≤ W.heap.size := hsv.le
    have hS0 : S < B0 := hsv.lt
    have HROW := Lib.hid hrowW
    have hSx : S ≠ x := by rw [← hx]; have := h.lt; have := h.le; omega
    have HRD : Hid (∀ V, IsMm V xm c N M → IsSh V s room N D → Calls Try.prog 47 #[leadV p root lv lo hi, mmI s xm] V (MmR V xm c N M (p : Int) (LV : Int) ps)) := Lib.hid fun V hV hV2 => by
      have := trLeadReadM hV hV2 (by omega) ix hix (hfit ix hix) root lv lo hi (by rw [hni]; exact hS.fit)
      rw [hqi, hni] at this
      try rw [hLV] at this
      exact this
    have HIX : Hid (∃ (i : Nat) (h : i < N.length), i + 1 = p ∧ N[i].2 = ps) := Lib.hid ⟨ix, hix, hqi, by rw [hni]⟩
    obtain ⟨ip, hip, hp0, hp1, hp2⟩ := info_parts infoInt8
    obtain ⟨n, hn⟩ : ∃ n, ps.length = n := ⟨_, rfl⟩
    have HN := Lib.hid hn
    have HML := Lib.hid hm
    have HH := Lib.hid (And.intro hsh (And.intro hD (And.intro hS (And.intro hnd (And.intro hml (And.intro hl7 hcb))))))
    clear hrowW hshW hsv hkW hbd hp hI hSW h hsh hD hS hnd hix hqi hni hn hm hmm hmm0 hcb
    unfold mmI mmV pgV leadV at *
    rw [hx] at d0 d1 d2 d3 d4
    go_enter Try.func57, Try.ntmps57
    go_wp2_with fail
    go_quiet ((go_at_call 79; exact Calls.quiet_of_same (HQ.out _)))
    go_upto_region 3 with fail
    go_cut [] from 8 (fun wx => Hid (SoM9 w S s B0 xm c x p room N D M root lv lo hi (ms ++ [(p : Int)]) wx))
    case first =>
      go_wp2_with fail
      have c1' : ((W.drewN nq).drew).cell? ⟨S, 1, none⟩ = some (.slice a m cap) := c1
      have x0' : ((W.drewN nq).drew).cell? ⟨x, 0, none⟩ = some (.int .i64 (p : Int)) := d0
      have hrow8 : ((W.drewN nq).drew).ownsRow B0 3 1 (.slice a m cap) m (cellsI ms) := HROW.out
      have hsz8 : B0 ≤ ((W.drewN nq).drew).heap.size := hB0
      have hSV : S < ((W.drewN nq).drew).heap.size := Nat.lt_of_lt_of_le hS0 hB0
      have cc8 : (((W.drewN nq).drew).alloc (.cells #[.int .i64 (p : Int)] 3)).cell? ⟨S, 1, none⟩ = some (.slice a m cap) := (World.cell?_of_block (a := ⟨S, 1, none⟩) (Lib.alloc_old ((W.drewN nq).drew) _ _ hSV)).trans c1
      have hgr8 := HG.out nq
      have hme8 := HM.out nq
      obtain ⟨V, hV⟩ : ∃ V, (W.drewN nq).drew = V := ⟨_, rfl⟩
      rw [hV] at c1' x0' hrow8 hsz8 hgr8 cc8 hme8
      clear hSV
      go_region_law (first
        | (refine step_append_lies _ (by rfl) _ _ 23 (by rfl) B0 3 ip _ 1 8 Try.underlying23 hip hp0 hp1 hp2 rfl (by omega) (.slice a m cap) m _ (by rfl) (hrow8.alloc _) ⟨V.heap.size, 0, none⟩ 1 1 [.int .i64 (p : Int)] (by rfl) (by rfl) (World.news_of_block (cs := #[.int .i64 (p : Int)]) (t := 3) (fr := (0, 0)) (heap_alloc_new V _)) (by simp [Value.oneCell']) (by omega) (by unfold maxLen; omega) (by omega) (by simp; omega) (V.heap.size + 1) (by simp) ?_; intro gg cap' w1 hown1 hgrow hat hlt1; obtain ⟨e0', ef⟩ := hgr8 w1 hgrow; have hmm := hme8 w1 gg cap' hgrow hown1))
      all_goals
        clear hgr8 hme8 hrow8
        go_wp2_with fail
        go_meet
        case rel => exact Lib.hid hmm
    case rest =>
      have HC := hcut
      clear hcut HM HG HQ HROW c0 c1 d0 d1 d2 d3 d4
      have HF := Lib.hid fun V (hk : KeptIn (fun j => j < wc.heap.size ∧ j ≠ xm) wc V) => HC.out.facts hk
      obtain ⟨c0, d0, d1, d2, d3, d4⟩ := HC.out.facts (KeptIn.refl _ wc)
      have HRC : Hid (∀ V, KeptIn (· < wc.heap.size) wc V → _) := Lib.hid fun V hk => HRD.out V (HC.out.choose_spec.2.2.2.2.2.2.old hk) (HC.out.choose_spec.2.2.1.old hk)
      have HXW : Hid (xm < wc.heap.size) := Lib.hid HC.out.choose_spec.2.2.2.2.2.2.lt
      unfold mmI mmV pgV at HF c0
      go_upto_region 4 with fail
      go_cut [5, 6] from 8 (fun s5 s6 wx => ∃ y g cg : Nat, s5 = .pointer (some ⟨y, 0, none⟩) ∧ s6 = .int .i64 0 ∧ Hid (∃ v, SoF9 w S s B0 xm c x y p g n cg room N D M [(p : Int)] root lv lo hi LV ps v (ms ++ [(p : Int)]) wx))
      case first =>
        go_wp2_with fail
        go_region_held3 (fun w' => w'.cell? ⟨S, 0, none⟩ = some (.iface 66 (.agg #[.iface 28 (.pointer (some ⟨s, 0, none⟩)), .map (some xm)])) ∧ w'.cell? ⟨x, 0, none⟩ = some (.int .i64 (p : Int)) ∧ w'.cell? ⟨x, 1, none⟩ = some (.bool root) ∧ w'.cell? ⟨x, 2, none⟩ = some (.int .i64 lv) ∧ w'.cell? ⟨x, 3, none⟩ = some (.int .u64 (lo : Int)) ∧ w'.cell? ⟨x, 4, none⟩ = some (.int .u64 (hi : Int)))
          (first | exact ⟨c0, d0, d1, d2, d3, d4⟩ | exact HF.out _ (KeptIn.refl _ _).drew | exact HF.out _ (((KeptIn.refl _ _).alloc (fun _ h => h.1) _).drew) | exact HF.out _ (z_go (KeptIn.refl _ _).drew hk) | exact HF.out _ (z_go (((KeptIn.refl _ _).alloc (fun _ h => h) _).drew) hk) | exact HF.out _ ((z_go (KeptIn.refl _ _).drew hk).alloc (fun _ h => h.1) _) | exact HF.out _ (((z_go (KeptIn.refl _ _).drew hk).alloc (fun _ h => h.1) _).setCell (fun h => Nat.not_lt.2 hk.size h.1) _) | exact HF.out _ ((((z_go (KeptIn.refl _ _).drew hk).alloc (fun _ h => h.1) _).setCell (fun h => Nat.not_lt.2 hk.size h.1) _).setCell (fun h => Nat.not_lt.2 hk.size h.1) _) | exact HF.out _ (((z_go (((KeptIn.refl _ _).alloc (fun _ h => h) _).drew) hk).setCell (by simp) _).setCell (by simp) _))
          (first | (go_at_call 47; first | (refine (HRC.out wc.drew (KeptIn.refl _ _).drew).mono ?_; rintro e V ⟨g, cg, c', M', rfl, hmr, hz, hq, hcc, hk⟩; rw [HN.out]; rw [HN.out] at hz; unfold leafV) | (refine (HRC.out (wc.alloc (.cells #[.int .i64 0, .slice none 0 0] 27)).drew (((KeptIn.refl _ _).alloc (fun _ h => h) _).drew)).mono ?_; rintro e V ⟨g, cg, c', M', rfl, hmr, hz, hq, hcc, hk⟩; have hb9 := (show BoxL wc.heap.size 0 none 0 0 (wc.alloc (.cells #[.int .i64 0, .slice none 0 0] 27)).drew from heap_alloc_new wc _).kept (W' := V) hk ⟨Nat.lt_of_lt_of_le (Nat.lt_succ_self _) (Nat.le_of_eq (World.size_alloc _ _).symm), Nat.ne_of_gt HXW.out⟩; have e0 := hb9.c0; have e1 := hb9.c1; have g0 := hb9.f0; have g1 := hb9.f1; rw [HN.out]; rw [HN.out] at hz; unfold leafV)))
        · go_wp2_with fail
          go_meet
          case rel =>
            obtain ⟨i9, hi9, hp9, he9⟩ := HIX.out
            exact ⟨_, _, _, rfl, rfl, Lib.hid (so_read29p HC.out hi9 hp9 he9 (z_go (KeptIn.refl _ wc).drew hk) hmr hz hq hcc HN.out)⟩
        · go_wp2_with fail
          go_meet
          case rel =>
            obtain ⟨i9, hi9, hp9, he9⟩ := HIX.out
            exact ⟨_, _, _, rfl, rfl, Lib.hid (so_read9p HC.out hi9 hp9 he9 (((KeptIn.refl _ wc).alloc (fun _ h => h) _).drew) rfl (show BoxL wc.heap.size 0 none 0 0 (wc.alloc (.cells #[.int .i64 0, .slice none 0 0] 27)).drew from heap_alloc_new wc _) hk hmr hz hq hcc HN.out)⟩
      case rest =>
        obtain ⟨y, g, cg, rfl, rfl, hq⟩ := hcut
        have HQ := hq
        clear hq HC HF HRC HXW HIX c0 d0 d1 d2 d3 d4 HRD
        obtain ⟨v2, hF⟩ := HQ.out
        have y0 := hF.leaf.c0
        have y1 := hF.leaf.c1
        have HF := Lib.hid hF
        clear HQ hF
        have HI0 : Hid (SoK9 w S s B0 xm c x y p g n cg room N D M root lv lo hi LV ps qs l g0 (ms ++ [(p : Int)]) 0 wc) := Lib.hid ⟨v2, [], qs, [], g0, Nat.zero_le _, rfl, rfl, ⟨rfl, rfl⟩, HH.out.2.2.1.body, by simpa [ofP] using HF.out⟩
        have hn15 : n ≤ 15 := by rw [← HN.out]; exact HX.out.1
        go_wp2_with fail
        go_loopw [7, 53] (fun _ i wr => ∃ (j : Nat) (W : World), W = wr ∧ i = .int .i64 (j : Int) ∧ Hid (SoK9 w S s B0 xm c x y p g n cg room N D M root lv lo hi LV ps qs l g0 (ms ++ [(p : Int)]) j W)) (fun _ i _ => n - (intOf i).toNat)
        case atStart => exact ⟨0, _, rfl, rfl, HI0⟩
        case round =>
          obtain ⟨j, W, rfl, rfl, HJ⟩ := hrel
          clear HI0 y0 y1 HF
          by_cases hlt : j < n
          · obtain ⟨t1, t2, t3, t4⟩ := rg_idx j n hlt (by omega)
            clear t3
            obtain ⟨v3, ms2, ps', q2, g', c2, M2, qs2, hF, hmk, hcq, hmo, hck, hkid, hk15, hnd2, hml2, hnext⟩ := HJ.out.kid HH.out.2.2.1 hl7 hN HN.out hlt (by
              have := HH.out.2.2.2.1
              rw [List.append_assoc]
              exact this) (by have := HH.out.2.2.2.2.1; have := HML.out; rw [List.length_append, List.length_singleton]; omega)
            have hhi2 := highOf_lt ps j hi hF.isps.fits HX.out.2
            have y0 := hF.leaf.c0
            have y1 := hF.leaf.c1
            have y2 := hF.lead.c4
            have HCH := Lib.hid (HCT.out j g cg W (by rw [HN.out]; exact hlt) hF.isps)
            rw [HN.out] at HCH
            have HG : Hid (∀ V, KeptIn (· < W.heap.size) W V → Calls Try.prog 57 #[.pointer (some ⟨S, 0, none⟩), .agg #[.int .i64 (valAt ps j : Int), .bool false, .int .i64 (l : Int), .int .u64 (keyAt ps j : Int), .int .u64 (highOf ps j hi : Int)]] V (SoQ V S s B0 xm c2 N M2 ms2 (ofP (valAt ps j :: g')))) := Lib.hid fun V hk => by
              have hV := hF.old hk
              exact ih hV.sh hV.dS hV.sv (hmk.old hk) hkid (by omega) hk15 hhi2 hnd2 hml2 (Nat.le_trans hck HH.out.2.2.2.2.2.2)
            have HNX : Hid (∀ V W' v', KeptIn (· < W.heap.size) W V → SvU W' S (mmI s xm) B0 v' (ms2 ++ ofP (valAt ps j :: g')) → MmS W' xm c2 N M2 (ofP (valAt ps j :: g')) → KeptIn (SdZ V S B0 xm) V W' → SoK9 w S s B0 xm c x y p g n cg room N D M root lv lo hi LV ps qs l g0 (ms ++ [(p : Int)]) (j + 1) W') := Lib.hid fun V W' v' h1 h2 h4 h3 => hnext v' W' ((hF.old h1).go h3 h2 (MmS.trans hcq hmo h4))
            clear hkid hk15 hnd2 hml2 hnext hhi2 hF HJ hmk hcq hmo hck
            obtain ⟨kk, hkk⟩ : ∃ kk, keyAt ps j = kk := ⟨_, rfl⟩
            obtain ⟨vv, hvv⟩ : ∃ vv, valAt ps j = vv := ⟨_, rfl⟩
            obtain ⟨hh, hhe⟩ : ∃ hh, highOf ps j hi = hh := ⟨_, rfl⟩
            rw [hkk, hvv, hhe] at HG HCH
            rw [hvv] at HNX
            clear hkk hvv hhe
            go_wp2_with (first
              | (go_at_call 50; refine HCH.out.mono ?_; rintro e V2 ⟨rfl, hk2⟩; have HCB := Lib.hid (HG.out V2 hk2); have HK2 := Lib.hid hk2; clear hk2)
              | (go_at_call 57; refine HCB.out.mono ?_; rintro e V3 ⟨v4, rfl, hs4, hm4, hk4⟩; have HO := Lib.hid (HNX.out V2 V3 v4 HK2.out hs4 hm4 hk4); clear hs4 hm4 hk4))
            go_roundw
            case rel => exact ⟨j + 1, _, rfl, congrArg (Value.int .i64) (rg_succ j), HO⟩
            case measure => simp only [intOf]; exact rg_meas j n hlt
          · obtain ⟨u1, u2⟩ := rg_ge hlt
            have HE := Lib.hid (HJ.out.fin HN.out hlt)
            clear HJ
            go_wp2_with fail
            go_ret
            exact HE.out

end Go.Proofs.Ytdbohcdjamhdjaa
/- Package tree's Reach, Check over a memo and a sound tree. -/
set_option linter.unusedVariables false
namespace Go.Proofs.Ytdbohcdjamhdjaa
open Go.RowKit

/-- The pages of a tree, and no error; their nodes are kept. -/
def RchM (w : World) (x c : Nat) (N : List Nd) (M : Int → Option (Option Lf9)) (ks : List Int) (e : Ending) (w' : World) : Prop := ∃ v, e = .returned (.tuple #[v, .int .i64 0]) ∧ MmS w' x c N M ks ∧ KeptIn (fun j => j < w.heap.size ∧ j ≠ x) w w'

theorem MmS.zero {w : World} {x c : Nat} {N : List Nd} {M : Int → Option (Option Lf9)} (h : IsMm w x c N M) : MmS w x c N M [] := ⟨c, M, h, Nat.le_refl _, Mmo.refl M⟩

theorem so_end9 {w W V V2 : World} {S B0 x c : Nat} {N : List Nd} {M : Int → Option (Option Lf9)} {v : Value} {ks : List Int} (hkW : KeptIn (· < w.heap.size) w W) (hk : KeptIn (· < W.heap.size) W V) (hS : w.heap.size = S) (hB : S < B0) (hm : MmS V2 x c N M ks) (h2 : KeptIn (SdZ V S B0 x) V V2) : RchM w x c N M ks (.returned (.tuple #[v, .int .i64 0])) V2 := by
  refine ⟨v, rfl, hm, ((hkW.go hk).mono fun j h => h.1).trans (h2.mono fun k hk2 => ?_)⟩
  have hz : w.heap.size ≤ V.heap.size := (hkW.go hk).size
  exact ⟨⟨by have := hk2.1; omega, by have := hk2.1; omega, .inl (by have := hk2.1; omega)⟩, hk2.2⟩

set_option maxRecDepth 100000 in
set_option maxHeartbeats 4000000 in
theorem trReachM {N : List Nd} (hN : N.length ≤ 511) (hfit : ∀ (i : Nat) (h : i < N.length), Fits N[i].2) {w : World} {s room x c : Nat} {D : Nat → Prop} {M : Int → Option (Option Lf9)} (h : IsSh w s room N D) (hD : ∀ k, D k → k ≠ x) (hm : IsMm w x c N M) (hc : c ≤ 90000) {root l : Nat} {qs : Pairs} {g : List Nat} (ht : TreeG N root l qs g) (hnd : g.Nodup) :
    Calls Try.prog 41 #[mmI s x, .int .i64 (root : Int)] w (RchM w x c N M (ofP g)) := by
  have hlen : g.length ≤ 511 := Nat.le_trans (nodup_le N.length g hnd ht.pages) hN
  rcases ht with ⟨rfl, rfl, rfl, _⟩ | ⟨ps, g', hS, hl7, h15, rfl⟩
  · have HE : Hid (RchM w x c N M (ofP []) (.returned (.tuple #[.slice none 0 0, .int .i64 0])) w) := Lib.hid ⟨_, rfl, MmS.zero hm, KeptIn.refl _ _⟩
    unfold mmI mmV pgV
    clear h hnd hlen hm hD hfit
    go_enter Try.func41, Try.ntmps41
    go_wp2_with fail
    go_ret2
    exact HE.out
  · have hpg := nodeOf_le hS.node
    have p0 : ((root : Int) == 0) = false := by rw [beq_eq_false_iff_ne]; omega
    have p1 : ¬ ((root : Int) = 0) := by omega
    obtain ⟨W, hW⟩ : ∃ W, w.alloc (.cells #[mmI s x, .slice none 0 0, .int .i64 0] 125) = W := ⟨_, rfl⟩
    have hkW : KeptIn (· < w.heap.size) w W := by rw [← hW]; exact (KeptIn.refl _ w).alloc (fun _ h => h) _
    have hbx : W.heap[w.heap.size]? = some (.cells #[mmI s x, .slice none 0 0, .int .i64 0] 125 (0, 0)) := by rw [← hW]; exact heap_alloc_new w _
    have hWs : W.heap.size = w.heap.size + 1 := by rw [← hW]; simp
    obtain ⟨S, hSe⟩ : ∃ S, w.heap.size = S := ⟨_, rfl⟩
    obtain ⟨B0, hB0⟩ : ∃ B0, W.heap.size = B0 := ⟨_, rfl⟩
    have hSB : S < B0 := by omega
    have HM : Hid (∀ V, KeptIn (· < W.heap.size) W V → Calls Try.prog 57 #[.pointer (some ⟨S, 0, none⟩), leadV root true 0 0 18446744073709551615] V (SoQ V S s B0 x c N M [] (ofP (root :: g')))) := Lib.hid fun V hk => by
      have hsv0 : SvU W S (mmI s x) B0 (.slice none 0 0) [] := ⟨by rw [← hSe]; exact hbx, ⟨rfl, .inl ⟨rfl, rfl⟩⟩, hSB, Nat.le_of_eq hB0.symm⟩
      exact trSoundM hN hfit s room x ((h.old hkW).old hk) (fun k hk => ⟨by rw [← hSe]; exact h.lt k hk, hD k hk⟩) (hsv0.old hk) ((hm.old hkW).old hk) hS hl7 h15 (by decide) (by simpa using ofP_nodup hnd) (by simp at hlen ⊢; omega) (by simp at hlen ⊢; omega)
    have HE : Hid (∀ V V2 v, KeptIn (· < W.heap.size) W V → MmS V2 x c N M (ofP (root :: g')) → KeptIn (SdZ V S B0 x) V V2 → RchM w x c N M (ofP (root :: g')) (.returned (.tuple #[v, .int .i64 0])) V2) := Lib.hid fun V V2 v h1 h2 h3 => so_end9 hkW h1 hSe hSB h2 h3
    have HT := Lib.hid fun V => trToRoot root V
    have HW := Lib.hid hW
    have HSE := Lib.hid hSe
    obtain ⟨ks, hks⟩ : ∃ ks, ofP (root :: g') = ks := ⟨_, rfl⟩
    rw [hks] at HM HE ⊢
    clear hks hW hSe
    clear h hnd hlen hS hkW hbx hWs hpg hB0 hm hD hfit
    unfold mmI mmV pgV leadV at *
    go_enter Try.func41, Try.ntmps41
    go_wp2_with (first
      | (go_at_call 46; rw [HW.out, HSE.out]; refine (HT.out _).mono ?_; rintro e V ⟨rfl, hk⟩; have HC := Lib.hid (HM.out V hk); have HK := Lib.hid hk; clear hk)
      | (go_at_call 57; refine HC.out.mono ?_; rintro e V2 ⟨v4, rfl, hs4, hm4, hk4⟩; have HR := Lib.hid (HE.out V V2 v4 HK.out hm4 hk4); have c1 : V2.cell? ⟨S, 1, none⟩ = some v4 := (cell_of_row _ _ 1 _ _ _ hs4.box).trans rfl; have c2 : V2.cell? ⟨S, 2, none⟩ = some (.int .i64 0) := (cell_of_row _ _ 2 _ _ _ hs4.box).trans rfl; clear hs4 hm4 hk4))
    go_ret2
    exact HR.out

theorem trCheckM {N : List Nd} (hN : N.length ≤ 511) (hfit : ∀ (i : Nat) (h : i < N.length), Fits N[i].2) {w : World} {s room x c : Nat} {D : Nat → Prop} {M : Int → Option (Option Lf9)} (h : IsSh w s room N D) (hD : ∀ k, D k → k ≠ x) (hm : IsMm w x c N M) (hc : c ≤ 90000) {root l : Nat} {qs : Pairs} {g : List Nat} (ht : TreeG N root l qs g) (hnd : g.Nodup) :
    Calls Try.prog 31 #[mmI s x, .int .i64 (root : Int)] w fun e w' => e = .returned (.int .i64 0) ∧ MmS w' x c N M (ofP g) ∧ KeptIn (fun j => j < w.heap.size ∧ j ≠ x) w w' := by
  have HC := Lib.hid (trReachM hN hfit h hD hm hc ht hnd)
  obtain ⟨ks, hks⟩ : ∃ ks, ofP g = ks := ⟨_, rfl⟩
  rw [hks] at HC ⊢
  unfold mmI mmV pgV at *
  clear h ht hnd hm hD hfit hks
  go_enter Try.func31, Try.ntmps31
  go_wp2_with (go_at_call 41; refine HC.out.mono ?_; rintro e V ⟨v, rfl, hr, hk⟩; have HR := Lib.hid (And.intro hr hk); clear hr hk)
  go_ret
  exact ⟨rfl, HR.out⟩

end Go.Proofs.Ytdbohcdjamhdjaa
/- Package reach's checkAll: what stands in its loop over the roots. -/
set_option linter.unusedVariables false
namespace Go.Proofs.Ytdbohcdjamhdjaa
open Go.RowKit

/-- The empty struct, as a map's element. -/
def unV (_ : Unit) : Value := .agg #[]
theorem unV_inj (a b : Unit) (h : unV a = unV b) : a = b := rfl

/-- What memo has come to keep: what it kept, and the pages of these roots. -/
def Mko (M M' : Int → Option (Option Lf9)) (G : Int → List Int) (rs : List Int) : Prop := ∀ q, (M' q).isSome = true ↔ (M q).isSome = true ∨ ∃ r ∈ rs, q ∈ G r

/-- What stands in checkAll's loop: the first j roots are looked at. -/
structure CkR (w : World) (s room x y c : Nat) (N : List Nd) (D : Nat → Prop) (M : Int → Option (Option Lf9)) (G : Int → List Int) (rs : List Int) (j c' : Nat) (M' : Int → Option (Option Lf9)) (T : Int → Option Unit) (W : World) : Prop where
  mm : IsMm W x c' N M'
  le : c' ≤ c + 511 * j
  says : Mko M M' G (rs.take j)
  met : MpAt unV y j T W
  metS : ∀ q, (T q).isSome = true ↔ q ∈ rs.take j
  sh : IsSh W s room N D
  dx : ∀ k, D k → k ≠ x
  kept : KeptIn (fun k => k < w.heap.size ∧ k ≠ x) w W
  new : w.heap.size ≤ y
  ne : y ≠ x

section
variable {w W W' : World} {s room x y c j c' : Nat} {N : List Nd} {D : Nat → Prop} {M M' : Int → Option (Option Lf9)} {G : Int → List Int} {rs : List Int} {T : Int → Option Unit}
theorem CkR.old (h : CkR w s room x y c N D M G rs j c' M' T W) (hk : KeptIn (· < W.heap.size) W W') : CkR w s room x y c N D M G rs j c' M' T W' :=
  ⟨h.mm.old hk, h.le, h.says, h.met.kept hk h.met.lt, h.metS, h.sh.old hk, h.dx, h.kept.trans (hk.mono fun k e => Nat.lt_of_lt_of_le e.1 h.kept.size), h.new, h.ne⟩

/-- A root that was looked at. -/
theorem CkR.again (h : CkR w s room x y c N D M G rs j c' M' T W) (hj : j < rs.length) (hm : rs[j] ∈ rs.take j) : CkR w s room x y c N D M G rs (j + 1) c' M' T W := by
  have e : rs.take (j + 1) = rs.take j ++ [rs[j]] := by rw [List.take_add_one, List.getElem?_eq_getElem hj]; rfl
  refine ⟨h.mm, by have := h.le; omega, fun q => ?_, h.met.mono (Nat.le_succ _), fun q => ?_, h.sh, h.dx, h.kept, h.new, h.ne⟩
  · rw [h.says q, e]
    constructor
    · rintro (h1 | ⟨r, hr, hq⟩)
      · exact .inl h1
      · exact .inr ⟨r, List.mem_append_left _ hr, hq⟩
    · rintro (h1 | ⟨r, hr, hq⟩)
      · exact .inl h1
      · rcases List.mem_append.1 hr with h2 | h2
        · exact .inr ⟨r, h2, hq⟩
        · rw [List.mem_singleton] at h2
          subst h2
          exact .inr ⟨_, hm, hq⟩
  · rw [h.metS q, e]
    constructor
    · exact fun h1 => List.mem_append_left _ h1
    · intro h1
      rcases List.mem_append.1 h1 with h2 | h2
      · exact h2
      · rw [List.mem_singleton] at h2
        subst h2
        exact hm

/-- A root that wasn't: it is met, and its tree is looked at. -/
theorem CkR.first {W2 : World} (h : CkR w s room x y c N D M G rs j c' M' T W) (hj : j < rs.length) (hT : MpAt unV y (j + 1) (mpPut T rs[j] ()) W2) (hk2 : KeptIn (· ≠ y) W W2) (hy : ¬ D y)
    (hk3 : KeptIn (fun k => k < W2.heap.size ∧ k ≠ x) W2 W') (hm : MmS W' x c' N M' (G rs[j])) (hl : (G rs[j]).length ≤ 511) : ∃ c2 M2, CkR w s room x y c N D M G rs (j + 1) c2 M2 (mpPut T rs[j] ()) W' := by
  have e : rs.take (j + 1) = rs.take j ++ [rs[j]] := by rw [List.take_add_one, List.getElem?_eq_getElem hj]; rfl
  obtain ⟨c2, M2, h1, h2, h3⟩ := hm
  have hsh2 : IsSh W2 s room N D := h.sh.kept (hk2.mono fun k hk e => hy (e ▸ hk))
  refine ⟨c2, M2, h1, by have := h.le; omega, fun q => ?_, hT.kept hk3 ⟨hT.lt, h.ne⟩, fun q => ?_, hsh2.kept (hk3.mono fun k hk => ⟨hsh2.lt k hk, h.dx k hk⟩), h.dx, ?_, h.new, h.ne⟩
  · rw [h3 q, e, Bool.or_eq_true, h.says q, decide_eq_true_eq]
    constructor
    · rintro ((h1 | ⟨r, hr, hq⟩) | hq)
      · exact .inl h1
      · exact .inr ⟨r, List.mem_append_left _ hr, hq⟩
      · exact .inr ⟨_, List.mem_append_right _ (List.mem_singleton.2 rfl), hq⟩
    · rintro (h1 | ⟨r, hr, hq⟩)
      · exact .inl (.inl h1)
      · rcases List.mem_append.1 hr with h2 | h2
        · exact .inl (.inr ⟨r, h2, hq⟩)
        · rw [List.mem_singleton] at h2
          subst h2
          exact .inr hq
  · rw [e, List.mem_append, List.mem_singleton, ← h.metS q]
    unfold mpPut
    by_cases e2 : q = rs[j]
    · rw [if_pos e2]; simp [e2]
    · rw [if_neg e2]; simp [e2]
  · refine (h.kept.trans (hk2.mono fun k hk => ?_)).trans (hk3.mono fun k hk => ⟨?_, hk.2⟩)
    · have := h.new; have := hk.1; omega
    · exact Nat.lt_of_lt_of_le hk.1 (Nat.le_trans h.kept.size hk2.size)
end

end Go.Proofs.Ytdbohcdjamhdjaa
/- Package reach's checkAll: the walk. -/
set_option linter.unusedVariables false
namespace Go.Proofs.Ytdbohcdjamhdjaa
open Go.RowKit

theorem zeroEmpty9 (w : World) : (zeroValue 88).run Try.prog w = .ok (unV ()) w := by
  have : (zeroValue 88).run Try.prog w = .ok (.agg #[]) w := by kernel_rfl
  rw [this]
  rfl

theorem IsMm.map2 {W W2 : World} {x y c n : Nat} {N : List Nd} {M : Int → Option (Option Lf9)} {T : Int → Option Unit} (h : IsMm W x c N M) (hT : MpAt unV y n T W) (hyx : y ≠ x) (hk : KeptIn (· ≠ y) W W2) : IsMm W2 x c N M := by
  refine ⟨h.map.kept hk hyx.symm, fun p z hz => ?_⟩
  obtain ⟨i, hi, g, cap, q1, q2, q3, q4⟩ := h.node p z hz
  have hg : g ≠ y := q4.1.ne_map hT
  exact ⟨i, hi, g, cap, q1, q2, psAt q3 hk (fun p e => by cases e; exact hg), ⟨q4.1.kept (hk.block g hg), q4.2⟩⟩

set_option maxRecDepth 100000 in
set_option maxHeartbeats 2000000 in
theorem ckAll {N : List Nd} (hN : N.length ≤ 511) (hfit : ∀ (i : Nat) (h : i < N.length), Fits N[i].2) {w : World} {s room x c cap : Nat} {D : Nat → Prop} {M : Int → Option (Option Lf9)} {a : Option Addr} {rs : List Int} {G : Int → List Int} (h : IsSh w s room N D) (hD : ∀ k, D k → k ≠ x) (hm : IsMm w x c N M) (hr : IntsL w a rs) (hc : c + 511 * rs.length ≤ 90000)
    (hG : ∀ r ∈ rs, ∃ root l qs g, r = ((root : Nat) : Int) ∧ TreeG N root l qs g ∧ g.Nodup ∧ G r = ofP g) :
    Calls Try.prog 23 #[mmV s x, .slice a rs.length cap] w fun e w' => e = .returned (.int .i64 0) ∧ ∃ c' M', IsMm w' x c' N M' ∧ c' ≤ c + 511 * rs.length ∧ Mko M M' G rs ∧ KeptIn (fun k => k < w.heap.size ∧ k ≠ x) w w' := by
  obtain ⟨W, hW⟩ : ∃ W, (w.alloc (.cells #[pgV s, .map (some x)] 66)).alloc (.map #[] 0) = W := ⟨_, rfl⟩
  have hk : KeptIn (· < w.heap.size) w W := by rw [← hW]; exact ((KeptIn.refl _ w).alloc (fun _ h => h) _).alloc (fun _ h => h) _
  obtain ⟨B, hB⟩ : ∃ B, w.heap.size = B := ⟨_, rfl⟩
  have b0 : W.heap[B]? = some (.cells #[pgV s, .map (some x)] 66 (0, 0)) := by
    rw [← hW, ← hB, Lib.alloc_old _ _ _ (by simp)]
    exact heap_alloc_new w _
  have hT : MpAt unV (B + 1) 0 (fun _ => none) W := by
    have := MpAt.new (V := unV) (w.alloc (.cells #[pgV s, .map (some x)] 66))
    rw [World.size_alloc, hB, hW] at this
    exact this
  have H0 : Hid (CkR w s room x (B + 1) c N D M G rs 0 c M (fun _ => none) W) := Lib.hid ⟨hm.old hk, Nat.le_refl _, fun q => by simp, hT, fun q => by simp, h.old hk, hD, hk.mono fun k e => e.1, by omega, by have := hm.lt; omega⟩
  have HDB : Hid (∀ k, D k → k < B) := Lib.hid fun k e => by rw [← hB]; exact h.lt k e
  have HBW : Hid (W.heap[B]? = some (.cells #[pgV s, .map (some x)] 66 (0, 0)) ∧ B ≠ x ∧ w.heap.size = B) := Lib.hid ⟨b0, by have := hm.lt; omega, hB⟩
  have HRS := Lib.hid (And.intro hr (And.intro hc (And.intro hG (And.intro hfit hN))))
  have HMW := Lib.hid hm
  have HW := Lib.hid hW
  obtain ⟨n, hn⟩ : ∃ n, rs.length = n := ⟨_, rfl⟩
  have HN := Lib.hid hn
  unfold mmV pgV at *
  rw [hn]
  clear h hD hm hr hc hG hfit hN hW hk b0 hT hB hn
  go_enter Try.func23, Try.ntmps23
  have hmm := @run_makeMap Try.prog
  go_upto_region 3 with fail
  clear hmm
  rw [HW.out]
  try simp only [World.size_alloc]
  try rw [HBW.out.2.2]
  go_wp2_with fail
  go_loopw [5, 15] (fun e i wr => ∃ (j c' : Nat) (M' : Int → Option (Option Lf9)) (T : Int → Option Unit) (V : World), V = wr ∧ e = .int .i64 0 ∧ i = .int .i64 (j : Int) ∧ j ≤ n ∧ Hid (CkR w s room x (B + 1) c N D M G rs j c' M' T V ∧ V.heap[B]? = some (.cells #[.iface 28 (.pointer (some ⟨s, 0, none⟩)), .map (some x)] 66 (0, 0)))) (fun _ i _ => n - (RowKit.intOf i).toNat)
  case atStart => exact ⟨0, c, M, _, _, rfl, rfl, rfl, Nat.zero_le _, Lib.hid ⟨H0.out, HBW.out.1⟩⟩
  case round =>
    obtain ⟨j, c', M', T, V, rfl, rfl, rfl, hjn, HJ⟩ := hrel
    clear H0
    by_cases hlt : j < n
    · have hjr : j < rs.length := by rw [HN.out]; exact hlt
      have hn1 : n ≤ 1000 := by have := HN.out; have := HRS.out.2.1; omega
      obtain ⟨t1, t2, t3, t4⟩ := rg_idx j n hlt hn1
      obtain ⟨gk, off, rfl, hgl, hcl⟩ := HRS.out.1.cells (by omega)
      have e0 := hcl j hjr
      have hgx : gk ≠ x := fun e => by
        obtain ⟨D0, ⟨es, clock, h1, _⟩, _⟩ := HMW.out.map
        rw [e] at e0
        simp [World.cell?, h1] at e0
      have e1 : V.cell? ⟨gk, off + j, none⟩ = some (.int .i64 (rs.getD j 0)) := (World.cell?_of_block (a := ⟨gk, off + j, none⟩) (HJ.out.1.kept.block gk ⟨hgl, hgx⟩)).trans e0
      obtain ⟨r, hr⟩ : ∃ r, rs[j] = r := ⟨_, rfl⟩
      have hrd : rs.getD j 0 = r := by rw [List.getD_eq_getElem?_getD, List.getElem?_eq_getElem hjr]; exact hr
      rw [hrd] at e1
      obtain ⟨root, l, qs, g, e2, hTg, hnd, hGr⟩ := HRS.out.2.2.1 rs[j] (List.getElem_mem hjr)
      have hrt : root ≤ N.length := by
        rcases hTg with ⟨h1, _⟩ | ⟨ps, g', hS, _⟩
        · omega
        · exact (nodeOf_le hS.node).2
      have hwf : (Lit.int .i64 r).wf = true := by
        have := HRS.out.2.2.2.2
        rw [← hr, e2]
        simp [Lit.wf, IntKind.min, IntKind.max, IntKind.signed, IntKind.bits]
        omega
      have hlk := ((HJ.out.1.met).look unV_inj Try.underlying87 () (zeroEmpty9 V) r hwf).1
      by_cases hin : r ∈ rs.take j
      · have hT1 : (T r).isSome = true := (HJ.out.1.metS r).2 hin
        rw [hT1] at hlk
        unfold unV at hlk
        have HAG : Hid (CkR w s room x (B + 1) c N D M G rs (j + 1) c' M' T V) := Lib.hid (HJ.out.1.again hjr (by rw [hr]; exact hin))
        clear hcl e0 hrd e2 hTg hnd hGr hrt hwf hin hT1 hr hjr
        have hka : KeptIn (· < V.heap.size) V (V.alloc (.cells #[] 88)) := (KeptIn.refl _ V).alloc (fun _ h => h) _
        have HAH := Lib.hid (And.intro (HAG.out.old hka) ((hka.block B (Array.getElem?_eq_some_iff.1 HJ.out.2).1).trans HJ.out.2))
        clear hka
        go_wp2_with fail
        go_roundw
        case rel => exact ⟨j + 1, c', M', T, _, rfl, rfl, congrArg (Value.int .i64) (rg_succ j), by omega, HAH⟩
        case measure => simp only [RowKit.intOf]; exact rg_meas j n hlt
      · have hT1 : (T r).isSome = false := by
          cases e : (T r).isSome
          · rfl
          · exact absurd ((HJ.out.1.metS r).1 e) hin
        rw [hT1] at hlk
        have hka : KeptIn (· < V.heap.size) V (V.alloc (.cells #[] 88)) := (KeptIn.refl _ V).alloc (fun _ h => h) _
        have hJa := HJ.out.1.old hka
        have hBa := (hka.block B (Array.getElem?_eq_some_iff.1 HJ.out.2).1).trans HJ.out.2
        obtain ⟨V2, hrun2, hT2, hk2, hsz2⟩ := hJa.met.store unV_inj Try.underlying87 (by unfold maxLen; omega) r hwf ()
        have hDy : ¬ D (B + 1) := fun e => by have := HDB.out _ e; omega
        have hB2 := (hk2.block B (by show B ≠ B + 1; omega)).trans hBa
        have hmm2 := hJa.mm.map2 hJa.met hJa.ne hk2
        have hsh2 := hJa.sh.kept (hk2.mono fun k hk e => hDy (e ▸ hk))
        have hre : (root : Int) = r := e2.symm.trans hr
        have C := trCheckM HRS.out.2.2.2.2 HRS.out.2.2.2.1 hsh2 hJa.dx hmm2 (by have h1 := hJa.le; have h2 := HRS.out.2.1; omega) hTg hnd
        rw [hre, ← hGr, hr] at C
        unfold mmI mmV pgV at C
        have q0 : V2.cell? ⟨B, 0, none⟩ = some (.iface 28 (.pointer (some ⟨s, 0, none⟩))) := by simp [World.cell?, hB2]
        have q1 : V2.cell? ⟨B, 1, none⟩ = some (.map (some x)) := by simp [World.cell?, hB2]
        have hGl : (G rs[j]).length ≤ 511 := by
          rw [hGr, List.length_map]
          exact Nat.le_trans (nodup_le N.length g hnd hTg.pages) HRS.out.2.2.2.2
        have HC := Lib.hid C
        have HNX : Hid (∀ V3, MmS V3 x c' N M' (G r) → KeptIn (fun k => k < V2.heap.size ∧ k ≠ x) V2 V3 → ∃ c2 M2, CkR w s room x (B + 1) c N D M G rs (j + 1) c2 M2 (mpPut T rs[j] ()) V3 ∧ V3.heap[B]? = some (.cells #[.iface 28 (.pointer (some ⟨s, 0, none⟩)), .map (some x)] 66 (0, 0))) := Lib.hid fun V3 h1 h2 => by
          obtain ⟨c2, M2, h3⟩ := hJa.first hjr (by rw [hr]; exact hT2) hk2 hDy h2 (by rw [hr]; exact h1) hGl
          exact ⟨c2, M2, h3, (h2.block B ⟨(Array.getElem?_eq_some_iff.1 hB2).1, HBW.out.2.1⟩).trans hB2⟩
        unfold unV at hlk hrun2
        clear hcl e0 hrd e2 hTg hnd hGr hrt hwf hin hT1 hka hJa hBa hT2 hk2 hsz2 hDy hB2 hmm2 hsh2 hre C hGl
        go_wp2_with (go_at_call 31; refine HC.out.mono ?_; rintro e V3 ⟨rfl, hm3, hk3⟩; have HV3 := Lib.hid (HNX.out V3 hm3 hk3); clear hm3 hk3)
        go_roundw
        case rel =>
          obtain ⟨c2, M2, h1⟩ := HV3.out
          exact ⟨j + 1, c2, M2, _, _, rfl, rfl, congrArg (Value.int .i64) (rg_succ j), by omega, Lib.hid h1⟩
        case measure => simp only [RowKit.intOf]; exact rg_meas j n hlt
    · obtain ⟨u1, u2⟩ := rg_ge hlt
      have HE : Hid (∃ c' M', IsMm V x c' N M' ∧ c' ≤ c + 511 * n ∧ Mko M M' G rs ∧ KeptIn (fun k => k < w.heap.size ∧ k ≠ x) w V) := Lib.hid (by
        obtain rfl : j = n := by omega
        refine ⟨c', M', HJ.out.1.mm, HJ.out.1.le, ?_, HJ.out.1.kept⟩
        have := HJ.out.1.says
        rw [← HN.out, List.take_length] at this
        exact this)
      clear HJ
      go_wp2_with fail
      go_ret
      exact ⟨rfl, HE.out⟩

end Go.Proofs.Ytdbohcdjamhdjaa
/- Package reach's counts: the mathematics; what stands in its loops. -/
set_option linter.unusedVariables false
namespace Go.Proofs.Ytdbohcdjamhdjaa
open Go.RowKit

/-- A count, as a map's element. -/
def cnV (n : Nat) : Value := .int .i64 (n : Int)
theorem cnV_inj (a b : Nat) (h : cnV a = cnV b) : a = b := by
  unfold cnV at h
  simp only [Value.int.injEq, true_and] at h
  omega
theorem zeroCn9 (w : World) : (zeroValue 3).run Try.prog w = .ok (cnV 0) w := by
  have : (zeroValue 3).run Try.prog w = .ok (.int .i64 0) w := by kernel_rfl
  rw [this]
  rfl
/-- The map of counts that aren't 0. -/
def cnM (C : Int → Nat) : Int → Option Nat := fun q => if C q = 0 then none else some (C q)
def cnUp (C : Int → Nat) (x : Int) : Int → Nat := fun q => if q = x then C x + 1 else C q
theorem cnM_get (C : Int → Nat) (x : Int) : (cnM C x).getD 0 = C x := by
  unfold cnM
  split
  · rename_i h; rw [h]; rfl
  · rfl
theorem cnM_up (C : Int → Nat) (x : Int) : mpPut (cnM C) x (C x + 1) = cnM (cnUp C x) := by
  funext q
  unfold mpPut cnM cnUp
  by_cases h : q = x
  · subst h; simp
  · rw [if_neg h, if_neg h]

/-- Where a pair leads. -/
def kv9 (p : Nat × Nat) : Int := wrap64 (p.2 : Int)
def vls (ps : Pairs) (q : Int) : Nat := ps.countP fun p => kv9 p == q
theorem vls_snoc (ps : Pairs) (p : Nat × Nat) (q : Int) : vls (ps ++ [p]) q = vls ps q + (if q = kv9 p then 1 else 0) := by
  unfold vls
  rw [List.countP_append, List.countP_cons, List.countP_nil]
  by_cases h : q = kv9 p
  · subst h; simp
  · rw [if_neg h, if_neg (by simpa using fun e => h e.symm)]
def mlt (N : List Nd) (i : Nat) (q : Int) : Nat := match N[i]? with
  | some nd => if nd.1 = 0 then 0 else vls nd.2 q
  | none => 0
/-- How often roots lead to a page. -/
def cnR (rs : List Int) (q : Int) : Nat := rs.countP fun r => r == q && r != 0
theorem cnR_snoc (rs : List Int) (r : Int) (q : Int) : cnR (rs ++ [r]) q = cnR rs q + (if q = r ∧ r ≠ 0 then 1 else 0) := by
  unfold cnR
  rw [List.countP_append, List.countP_cons, List.countP_nil]
  by_cases h : q = r
  · subst h
    by_cases h0 : q = 0
    · subst h0; simp
    · simp [h0]
  · have h1 : ¬ (q = r ∧ r ≠ 0) := fun e => h e.1
    have h2 : (r == q && r != 0) = false := by
      rw [Bool.and_eq_false_iff]
      exact .inl (by rw [beq_eq_false_iff_ne]; exact fun e => h e.symm)
    rw [if_neg h1, h2]
    rfl
/-- How often the nodes of these pages lead to one. -/
def cnP (N : List Nd) (P : Int → Bool) (q : Int) : Nat := ((List.range N.length).map fun i => if P ((i + 1 : Nat) : Int) then mlt N i q else 0).sum
theorem sum_up {n : Nat} {f g : Nat → Nat} {i d : Nat} (hi : i < n) (h1 : g i = f i + d) (h2 : ∀ j, j ≠ i → g j = f j) : ((List.range n).map g).sum = ((List.range n).map f).sum + d := by
  induction n with
  | zero => omega
  | succ n ih =>
    rw [List.range_succ, List.map_append, List.map_append, List.sum_append, List.sum_append]
    simp only [List.map_cons, List.map_nil, List.sum_cons, List.sum_nil, Nat.add_zero]
    rcases Nat.lt_or_ge i n with h | h
    · rw [ih h, h2 n (by omega)]
      omega
    · obtain rfl : i = n := by omega
      have : (List.range i).map g = (List.range i).map f := List.map_congr_left fun j hj => h2 j (by have := List.mem_range.1 hj; omega)
      rw [this, h1]
      omega
theorem cnP_add (N : List Nd) (P : Int → Bool) {i : Nat} (hi : i < N.length) (hP : P ((i + 1 : Nat) : Int) = false) (q : Int) : cnP N (fun z => P z || decide (z = ((i + 1 : Nat) : Int))) q = cnP N P q + mlt N i q := by
  unfold cnP
  refine sum_up hi ?_ fun j hj => ?_
  · rw [hP]
    simp
  · have : ¬ ((j + 1 : Nat) : Int) = ((i + 1 : Nat) : Int) := by omega
    simp only [this, decide_false, Bool.or_false]
theorem cnP_congr (N : List Nd) {P Q : Int → Bool} (h : ∀ z, P z = Q z) (q : Int) : cnP N P q = cnP N Q q := by
  have : P = Q := funext h
  rw [this]
theorem cnP_none (N : List Nd) {P : Int → Bool} (h : ∀ z, P z = false) (q : Int) : cnP N P q = 0 := by
  unfold cnP
  have e : ∀ n : Nat, ((List.range n).map fun i => if P ((i + 1 : Nat) : Int) then mlt N i q else 0).sum = 0 := fun n => by
    induction n with
    | zero => rfl
    | succ n ih =>
      rw [List.range_succ, List.map_append, List.sum_append, ih]
      simp [h]
  exact e _
theorem sameKey9 (a b : Int) : (Lit.int .i64 a).sameKey (.int .i64 b) = decide (a = b) := by
  by_cases h : a = b
  · subst h; simp [Lit.sameKey]
  · simp [Lit.sameKey, h]
/-- How often each page is led to. -/
def cnA (N : List Nd) (rs : List Int) (P : Int → Bool) : Int → Nat := fun q => cnR rs q + cnP N P q

theorem IsMm.map3 {α : Type} {V : α → Value} {W W2 : World} {x y c n : Nat} {N : List Nd} {M : Int → Option (Option Lf9)} {T : Int → Option α} (h : IsMm W x c N M) (hT : MpAt V y n T W) (hyx : y ≠ x) (hk : KeptIn (· ≠ y) W W2) : IsMm W2 x c N M := by
  refine ⟨h.map.kept hk hyx.symm, fun p z hz => ?_⟩
  obtain ⟨i, hi, g, cap, q1, q2, q3, q4⟩ := h.node p z hz
  have hg : g ≠ y := q4.1.ne_map hT
  exact ⟨i, hi, g, cap, q1, q2, psAt q3 hk (fun p e => by cases e; exact hg), ⟨q4.1.kept (hk.block g hg), q4.2⟩⟩

/-- What stands in counts. -/
structure CnI (w : World) (x c y n B s : Nat) (N : List Nd) (M : Int → Option (Option Lf9)) (C : Int → Nat) (W : World) : Prop where
  mm : IsMm W x c N M
  cn : MpAt cnV y n (cnM C) W
  yx : y ≠ x
  yn : w.heap.size ≤ y
  box : W.heap[B]? = some (.cells #[pgV s, .map (some x)] 66 (0, 0))
  kept : KeptIn (· < w.heap.size) w W
  cb : ∀ q, C q ≤ n
section
variable {w W W' : World} {x c y n B s : Nat} {N : List Nd} {M : Int → Option (Option Lf9)} {C : Int → Nat}
theorem CnI.old (h : CnI w x c y n B s N M C W) (hk : KeptIn (· < W.heap.size) W W') : CnI w x c y n B s N M C W' :=
  ⟨h.mm.old hk, h.cn.kept hk h.cn.lt, h.yx, h.yn, (hk.block B (Array.getElem?_eq_some_iff.1 h.box).1).trans h.box, h.kept.go hk, h.cb⟩
theorem IsMm.at9 {q : Int} {i g cp len : Nat} {lv : Int} (h : IsMm W x c N M) (hq : q = ((i + 1 : Nat) : Int)) (hi : i < N.length) (hM : M q = some (some (lv, g, len, cp))) : IsPs W (some ⟨g, 0, none⟩) N[i].2 ∧ lv = (N[i].1 : Int) ∧ len = N[i].2.length ∧ ∃ cs fr, W.heap[g]? = some (.cells cs 82 fr) := by
  obtain ⟨i', hi', g', cap', e1, e2, e3, e4⟩ := h.node q _ hM
  have : i' = i := by omega
  subst this
  simp only [Option.some.injEq, Prod.mk.injEq] at e2
  obtain ⟨r1, r2, r3, r4⟩ := e2
  subst r2
  exact ⟨e3, r1, r3, e4.1⟩
/-- Behind a step of the range over memo's map. -/
theorem CnI.step {R : Nat} {o1 : Option Nat} {a1 a3 : Nat} {a2 : Array Nat} (h : CnI w x c y n B s N M C W) (hR : W.heap[R]? = some (.mapIter o1 a1 a2 a3)) (hg : W.grownBy W' (some R)) (hRw : w.heap.size ≤ R) : CnI w x c y n B s N M C W' := by
  have hk : KeptIn (fun k => k < W.heap.size ∧ k ≠ R) W W' := (KeptIn.refl _ W).grown (fun k h => h.1) hg (fun g e h => h.2 (Option.some.inj e).symm)
  have hxR : x ≠ R := fun e => by
    obtain ⟨D, ⟨es, clock, h1, _⟩, _⟩ := h.mm.map
    rw [e, hR] at h1
    cases h1
  have hyR : y ≠ R := fun e => by
    obtain ⟨D, ⟨es, clock, h1, _⟩, _⟩ := h.cn
    rw [e, hR] at h1
    cases h1
  have hBR : B ≠ R := fun e => by
    have := h.box
    rw [e, hR] at this
    cases this
  refine ⟨⟨h.mm.map.kept hk ⟨h.mm.lt, hxR⟩, fun p z hz => ?_⟩, h.cn.kept hk ⟨h.cn.lt, hyR⟩, h.yx, h.yn, (hk.block B ⟨(Array.getElem?_eq_some_iff.1 h.box).1, hBR⟩).trans h.box, h.kept.trans (hk.mono fun k hk' => ⟨Nat.lt_of_lt_of_le hk' h.kept.size, by omega⟩), h.cb⟩
  obtain ⟨i, hi, g, cap, q1, q2, q3, q4⟩ := h.mm.node p z hz
  have hgR : g ≠ R := fun e => by
    obtain ⟨cs, fr, h1⟩ := q4.1
    rw [e, hR] at h1
    cases h1
  have hgl : g < W.heap.size := q4.1.lt
  exact ⟨i, hi, g, cap, q1, q2, psAt q3 hk (fun p e => by cases e; exact ⟨hgl, hgR⟩), ⟨q4.1.kept (hk.block g ⟨hgl, hgR⟩), q4.2⟩⟩
theorem CnI.look (h : CnI w x c y n B s N M C W) (q : Int) (hq : (Lit.int .i64 q).wf = true) : (Instr.lookup 68 (.map (some y)) (.int .i64 q) false).run Try.prog W = .ok (.int .i64 (C q : Int)) W := by
  have := (h.cn.look cnV_inj Try.underlying68 0 (zeroCn9 W) q hq).2
  rw [cnM_get] at this
  exact this
theorem CnI.up (h : CnI w x c y n B s N M C W) (hn : n < maxLen) (q : Int) (hq : (Lit.int .i64 q).wf = true) : ∃ W2, (Instr.mapUpdate 68 (.map (some y)) (.int .i64 q) (.int .i64 ((C q + 1 : Nat) : Int))).run Try.prog W = .ok () W2 ∧ CnI w x c y (n + 1) B s N M (cnUp C q) W2 ∧ KeptIn (· ≠ y) W W2 ∧ W2.heap.size = W.heap.size := by
  obtain ⟨W2, h1, h2, h3, h4⟩ := h.cn.store cnV_inj Try.underlying68 hn q hq (C q + 1)
  rw [cnM_up] at h2
  refine ⟨W2, h1, ⟨h.mm.map3 h.cn h.yx h3, h2, h.yx, h.yn, (h3.block B (fun e => h.cn.ne h.box e)).trans h.box, h.kept.trans (h3.mono fun k hk => by have := h.yn; omega), fun z => ?_⟩, h3, h4⟩
  unfold cnUp
  split
  · have := h.cb q; omega
  · have := h.cb z; omega
theorem grown_kept0 {W W' : World} (h : W.grownBy W' none) : KeptIn (· < W.heap.size) W W' := (KeptIn.refl _ W).grown (fun k h => h) h (fun g e => by cases e)
theorem wf_wrap64 (z : Int) : (Lit.int .i64 (wrap64 z)).wf = true := by
  have : -9223372036854775808 ≤ wrap64 z ∧ wrap64 z ≤ 9223372036854775807 := by unfold wrap64; omega
  simp [Lit.wf, IntKind.min, IntKind.max, IntKind.signed, IntKind.bits]
  omega

theorem CnI.cEq (h : CnI w x c y n B s N M C W) {C' : Int → Nat} (e : ∀ q, C q = C' q) : CnI w x c y n B s N M C' W := by
  have : C = C' := funext e
  rw [← this]
  exact h
theorem CnI.nLe (h : CnI w x c y n B s N M C W) {n' : Nat} (hn : n ≤ n') : CnI w x c y n' B s N M C W :=
  ⟨h.mm, h.cn.mono hn, h.yx, h.yn, h.box, h.kept, fun q => Nat.le_trans (h.cb q) hn⟩
end
theorem psG9 {W : World} {g : Nat} {ps : Pairs} (h : IsPs W (some ⟨g, 0, none⟩) ps) {j : Nat} (hj : j < ps.length) : W.cell? ⟨g, j * 2, none⟩ = some (.int .u64 (keyAt ps j : Int)) ∧ W.cell? ⟨g, j * 2 + 1, none⟩ = some (.int .u64 (valAt ps j : Int)) := by
  obtain ⟨b', off', e, hb, hc⟩ := h.cells (by omega)
  simp only [Option.some.injEq, Addr.mk.injEq, and_true] at e
  obtain ⟨rfl, rfl⟩ := e
  have := hc j hj
  rw [Nat.zero_add] at this
  exact this
theorem cn_num (k : Nat) (hk : k ≤ 100000000) : ∃ k2 : Nat, k + 1 = k2 ∧ wrap64 (k2 : Int) = (k2 : Int) ∧ (k : Int) + 1 = (k2 : Int) := ⟨k + 1, rfl, by unfold wrap64; omega, by omega⟩
/-- The range over memo's map depends on two blocks. -/
theorem ranges_block {H : Type} {P : Program} {k : TypeId} {R : Value → Option (DataW H × List MemPlace)} {w w' : World} {b r n cnt : Nat} {D : DataW H} {left : Lit → Bool} (h : w.ranges P k R b r n D left cnt) (hb : w'.heap[b]? = w.heap[b]?) (hr : w'.heap[r]? = w.heap[r]?) : w'.ranges P k R b r n D left cnt := by
  obtain ⟨es, clock, since, seen, c0, h1, h2, h3, h4, h5, h6⟩ := h
  exact ⟨es, clock, since, seen, c0, hb.trans h1, h2, h3, h4, hr.trans h5, h6⟩

end Go.Proofs.Ytdbohcdjamhdjaa
/- Reach: which pages are led to: the mathematics of counts over sound trees. -/
set_option linter.unusedVariables false
namespace Go.Proofs.Ytdbohcdjamhdjaa
open Go.RowKit

/-- A pair of an inner node of these pages leads there. -/
def Led (N : List Nd) (pg : List Nat) (x : Nat) : Prop := ∃ z ∈ pg, ∃ l ps, nodeOf N z = some (l, ps) ∧ l ≠ 0 ∧ ∃ v ∈ ps, v.2 = x
/-- What inner nodes of these pages lead to is among them. -/
def Shut (N : List Nd) (pg : List Nat) : Prop := ∀ z ∈ pg, ∀ l ps, nodeOf N z = some (l, ps) → l ≠ 0 → ∀ v ∈ ps, v.2 ∈ pg
theorem Led.mono {N : List Nd} {a b : List Nat} {x : Nat} (h : Led N a x) (hab : ∀ z ∈ a, z ∈ b) : Led N b x := by
  obtain ⟨z, hz, l, ps, h1, h2, h3⟩ := h
  exact ⟨z, hab z hz, l, ps, h1, h2, h3⟩
theorem kids_led {N : List Nd} {S : Nat → Pairs → List Nat → Prop} (hS : ∀ v q g, S v q g → v ∈ g ∧ (∀ x ∈ g, x = v ∨ Led N g x) ∧ Shut N g) : ∀ {ps qs : Pairs} {pg : List Nat}, Kids S ps qs pg → (∀ v ∈ ps, v.2 ∈ pg) ∧ (∀ x ∈ pg, (∃ v ∈ ps, v.2 = x) ∨ Led N pg x) ∧ Shut N pg := by
  intro ps
  induction ps with
  | nil =>
    rintro qs pg ⟨_, rfl⟩
    exact ⟨(fun v h => by cases h), (fun x h => by cases h), fun z h => by cases h⟩
  | cons kv r ih =>
    rintro qs pg ⟨q1, q2, g1, g2, rfl, rfl, h1, h2, h3, h4⟩
    obtain ⟨a1, a2, a3⟩ := hS _ _ _ h1
    obtain ⟨b1, b2, b3⟩ := ih h4
    refine ⟨fun v hv => ?_, fun x hx => ?_, fun z hz l ps hn hl v hv => ?_⟩
    · rcases List.mem_cons.1 hv with rfl | hv
      · exact List.mem_append_left _ a1
      · exact List.mem_append_right _ (b1 v hv)
    · rcases List.mem_append.1 hx with hx | hx
      · rcases a2 x hx with rfl | h
        · exact .inl ⟨kv, List.mem_cons_self, rfl⟩
        · exact .inr (h.mono fun z hz => List.mem_append_left _ hz)
      · rcases b2 x hx with ⟨v, hv, e⟩ | h
        · exact .inl ⟨v, List.mem_cons_of_mem _ hv, e⟩
        · exact .inr (h.mono fun z hz => List.mem_append_right _ hz)
    · rcases List.mem_append.1 hz with hz | hz
      · exact List.mem_append_left _ (a3 z hz l ps hn hl v hv)
      · exact List.mem_append_right _ (b3 z hz l ps hn hl v hv)
theorem body_led {N : List Nd} {l p : Nat} {ps qs : Pairs} {g : List Nat} (hn : nodeOf N p = some (l, ps)) (hb : (l = 0 ∧ g = []) ∨ (l ≠ 0 ∧ (∀ v ∈ ps, v.2 ∈ g) ∧ (∀ x ∈ g, (∃ v ∈ ps, v.2 = x) ∨ Led N g x) ∧ Shut N g)) :
    p ∈ p :: g ∧ (∀ x ∈ p :: g, x = p ∨ Led N (p :: g) x) ∧ Shut N (p :: g) := by
  refine ⟨List.mem_cons_self, fun x hx => ?_, fun z hz l' ps' hn' hl' v hv => ?_⟩
  · rcases List.mem_cons.1 hx with h | hx
    · exact .inl h
    · rcases hb with ⟨_, rfl⟩ | ⟨hl, h1, h2, h3⟩
      · cases hx
      · rcases h2 x hx with ⟨v, hv, e⟩ | h
        · exact .inr ⟨p, List.mem_cons_self, l, ps, hn, hl, v, hv, e⟩
        · exact .inr (h.mono fun z hz => List.mem_cons_of_mem _ hz)
  · rcases List.mem_cons.1 hz with rfl | hz
    · rw [hn] at hn'
      cases hn'
      rcases hb with ⟨h0, _⟩ | ⟨hl, h1, h2, h3⟩
      · exact absurd h0 hl'
      · exact List.mem_cons_of_mem _ (h1 v hv)
    · rcases hb with ⟨_, rfl⟩ | ⟨hl, h1, h2, h3⟩
      · cases hz
      · exact List.mem_cons_of_mem _ (h3 z hz l' ps' hn' hl' v hv)
theorem snd_led {N : List Nd} : ∀ {l p : Nat} {qs : Pairs} {pg : List Nat}, Snd N l p qs pg → p ∈ pg ∧ (∀ x ∈ pg, x = p ∨ Led N pg x) ∧ Shut N pg := by
  intro l
  induction l with
  | zero =>
    rintro p qs pg ⟨h1, h2, h3, rfl⟩
    exact body_led (qs := qs) h1 (.inl ⟨rfl, rfl⟩)
  | succ l ih =>
    rintro p qs pg ⟨ps, g, h1, h2, h3, h4, rfl⟩
    exact body_led (qs := qs) h1 (.inr ⟨by omega, kids_led (fun v q g h => ih h) h4⟩)
/-- A tree's pages: its root, and what is led to. -/
theorem tree_led {N : List Nd} {root l : Nat} {qs : Pairs} {g : List Nat} (h : TreeG N root l qs g) : (root ≠ 0 → root ∈ g) ∧ (∀ x ∈ g, (x = root ∧ root ≠ 0) ∨ Led N g x) ∧ Shut N g := by
  rcases h with ⟨rfl, _, rfl, _⟩ | ⟨ps, g', hS, h7, h15, rfl⟩
  · exact ⟨fun h => absurd rfl h, (fun x h => by cases h), fun z h => by cases h⟩
  · have hp := nodeOf_le hS.node
    have hb : (l = 0 ∧ g' = []) ∨ (l ≠ 0 ∧ (∀ v ∈ ps, v.2 ∈ g') ∧ (∀ x ∈ g', (∃ v ∈ ps, v.2 = x) ∨ Led N g' x) ∧ Shut N g') := by
      have hbd := hS.body
      cases l with
      | zero => exact .inl ⟨rfl, hbd.2⟩
      | succ l => exact .inr ⟨by omega, kids_led (fun v q g h => snd_led h) hbd⟩
    obtain ⟨a1, a2, a3⟩ := body_led (qs := qs) hS.node hb
    exact ⟨fun _ => a1, fun x hx => (a2 x hx).imp (fun e => ⟨e, by omega⟩) id, a3⟩

theorem vls_pos {ps : Pairs} {q : Int} : 0 < vls ps q ↔ ∃ v ∈ ps, kv9 v = q := by
  unfold vls
  rw [List.countP_pos_iff]
  simp
theorem sum_pos9 {n : Nat} {f : Nat → Nat} : 0 < ((List.range n).map f).sum ↔ ∃ i, i < n ∧ 0 < f i := by
  induction n with
  | zero => simp
  | succ n ih =>
    rw [List.range_succ, List.map_append, List.sum_append]
    simp only [List.map_cons, List.map_nil, List.sum_cons, List.sum_nil, Nat.add_zero]
    constructor
    · intro h
      by_cases h1 : 0 < f n
      · exact ⟨n, Nat.lt_succ_self _, h1⟩
      · obtain ⟨i, hi, h2⟩ := ih.1 (by omega)
        exact ⟨i, by omega, h2⟩
    · rintro ⟨i, hi, h1⟩
      rcases Nat.lt_or_ge i n with h | h
      · have := ih.2 ⟨i, h, h1⟩
        omega
      · obtain rfl : i = n := by omega
        omega
theorem cnR_pos {rs : List Int} {q : Int} : 0 < cnR rs q ↔ q ∈ rs ∧ q ≠ 0 := by
  unfold cnR
  rw [List.countP_pos_iff]
  constructor
  · rintro ⟨r, hr, h⟩
    rw [Bool.and_eq_true, beq_iff_eq, bne_iff_ne] at h
    rw [← h.1]
    exact ⟨hr, h.2⟩
  · rintro ⟨h1, h2⟩
    exact ⟨q, h1, by rw [Bool.and_eq_true, beq_iff_eq, bne_iff_ne]; exact ⟨rfl, h2⟩⟩
theorem nodeOf_mlt {N : List Nd} {z l : Nat} {ps : Pairs} (h : nodeOf N z = some (l, ps)) : ∃ i, z = i + 1 ∧ i < N.length ∧ N[i]? = some (l, ps) := by
  have hz := nodeOf_le h
  unfold nodeOf at h
  rw [if_neg (by omega)] at h
  exact ⟨z - 1, by omega, by omega, h⟩
theorem mlt_nodeOf {N : List Nd} {i : Nat} {l : Nat} {ps : Pairs} (h : N[i]? = some (l, ps)) : nodeOf N (i + 1) = some (l, ps) := by
  unfold nodeOf
  rw [if_neg (by omega)]
  exact h
theorem kv_page {N : List Nd} (hN : N.length ≤ 511) {v : Nat × Nat} (h : v.2 ≤ N.length) : kv9 v = ((v.2 : Nat) : Int) := by
  unfold kv9 wrap64
  omega

/-- What roots need: the pages of their trees. -/
theorem cnA_pos {N : List Nd} (hN : N.length ≤ 511) {rs : List Int} {G : Int → List Int} {P : Int → Bool} (hG : ∀ r ∈ rs, ∃ root l qs g, r = ((root : Nat) : Int) ∧ TreeG N root l qs g ∧ g.Nodup ∧ G r = ofP g) (hP : ∀ q, P q = true ↔ ∃ r ∈ rs, q ∈ G r) (q : Int) :
    0 < cnA N rs P q ↔ ∃ r ∈ rs, q ∈ G r := by
  have hofP : ∀ (g : List Nat) (z : Nat), ((z : Nat) : Int) ∈ ofP g ↔ z ∈ g := fun g z => by
    rw [List.mem_map]
    constructor
    · rintro ⟨a, ha, e⟩
      have : a = z := by have h2 : ((a : Nat) : Int) = (z : Int) := e; omega
      rw [← this]; exact ha
    · exact fun h => ⟨z, h, rfl⟩
  constructor
  · intro h
    unfold cnA at h
    by_cases h1 : 0 < cnR rs q
    · obtain ⟨h2, h3⟩ := cnR_pos.1 h1
      obtain ⟨root, l, qs, g, e, hT, _, hg⟩ := hG q h2
      refine ⟨q, h2, ?_⟩
      rw [hg, e, hofP]
      exact (tree_led hT).1 (by omega)
    · have h2 : 0 < cnP N P q := by omega
      unfold cnP at h2
      obtain ⟨i, hi, h3⟩ := sum_pos9.1 h2
      split at h3
      · rename_i hPi
        obtain ⟨r, hr, hir⟩ := (hP _).1 hPi
        obtain ⟨root, l, qs, g, e, hT, _, hg⟩ := hG r hr
        rw [hg, hofP] at hir
        unfold mlt at h3
        split at h3
        · rename_i nd hnd
          split at h3
          · omega
          · rename_i hl
            obtain ⟨v, hv, e2⟩ := vls_pos.1 h3
            have hvg := (tree_led hT).2.2 (i + 1) hir nd.1 nd.2 (mlt_nodeOf hnd) hl v hv
            refine ⟨r, hr, ?_⟩
            rw [← e2, kv_page hN (hT.pages _ hvg).2, hg, hofP]
            exact hvg
        · omega
      · omega
  · rintro ⟨r, hr, hq⟩
    obtain ⟨root, l, qs, g, e, hT, _, hg⟩ := hG r hr
    rw [hg] at hq
    obtain ⟨z, hz, rfl⟩ := List.mem_map.1 hq
    unfold cnA
    rcases (tree_led hT).2.1 z hz with ⟨h1, h2⟩ | ⟨y, hy, l', ps, hn, hl, v, hv, e2⟩
    · have : 0 < cnR rs (Int.ofNat z) := cnR_pos.2 ⟨by rw [h1]; show ((root : Nat) : Int) ∈ rs; rw [← e]; exact hr, by rw [h1]; show ((root : Nat) : Int) ≠ 0; omega⟩
      omega
    · obtain ⟨i, rfl, hi, hni⟩ := nodeOf_mlt hn
      have : 0 < cnP N P (Int.ofNat z) := by
        unfold cnP
        refine sum_pos9.2 ⟨i, hi, ?_⟩
        have hPi : P ((i + 1 : Nat) : Int) = true := (hP _).2 ⟨r, hr, by rw [hg, hofP]; exact hy⟩
        rw [if_pos hPi]
        unfold mlt
        rw [hni]
        simp only
        rw [if_neg hl]
        refine vls_pos.2 ⟨v, hv, ?_⟩
        rw [kv_page hN (by rw [e2]; exact (hT.pages _ hz).2), e2]
        rfl
      omega

end Go.Proofs.Ytdbohcdjamhdjaa
/- Package reach's counts: the walk. -/
set_option linter.unusedVariables false
namespace Go.Proofs.Ytdbohcdjamhdjaa
open Go.RowKit Go.Maps

theorem invK9 (key : Value) (kl : Lit) (h : keyOf Try.prog 3 key = some kl) : ∃ x : Int, key = .int .i64 x := by
  obtain ⟨x, h1, _⟩ := Maps.keyOf_int_inv Try.underlying3 h
  exact ⟨x, h1⟩
theorem invV9 (v : Value) (y : DataW (Option Lf9) × List MemPlace) (h : mpR lfV9 v = some y) : ∃ c, v = lfV9 c := by
  obtain ⟨a, h1, _⟩ := mpR_inv h
  exact ⟨a, h1⟩
theorem keyLit9 {q : Int} {kl : Lit} (h : keyOf Try.prog 3 (.int .i64 q) = some kl) : kl = .int .i64 q ∧ (Lit.int .i64 q).wf = true := by
  obtain ⟨x, h1, h2, h3⟩ := Maps.keyOf_int_inv Try.underlying3 h
  cases h1
  exact ⟨h2, h3⟩

/-- What counts leaves. -/
def CnS (w : World) (N : List Nd) (rs : List Int) (M : Int → Option (Option Lf9)) (e : Ending) (w' : World) : Prop :=
  ∃ y n, e = .returned (.map (some y)) ∧ MpAt cnV y n (cnM (cnA N rs fun q => (M q).isSome)) w' ∧ w.heap.size ≤ y ∧ KeptIn (· < w.heap.size) w w'

set_option maxRecDepth 100000 in
set_option maxHeartbeats 4000000 in
theorem rcCounts {N : List Nd} {w : World} {s x c cap : Nat} {M : Int → Option (Option Lf9)} {a : Option Addr} {rs : List Int} (hm : IsMm w x c N M) (hr : IntsL w a rs) (hrl : rs.length ≤ 1000) (hc : c ≤ 90000) (hlen : ∀ (i : Nat) (h : i < N.length), N[i].2.length ≤ 1000) (hwf : ∀ r ∈ rs, (Lit.int .i64 r).wf = true) :
    Calls Try.prog 24 #[mmV s x, .slice a rs.length cap] w (CnS w N rs M) := by
  obtain ⟨W, hW⟩ : ∃ W, (w.alloc (.cells #[pgV s, .map (some x)] 66)).alloc (.map #[] 0) = W := ⟨_, rfl⟩
  have hk : KeptIn (· < w.heap.size) w W := by rw [← hW]; exact ((KeptIn.refl _ w).alloc (fun _ h => h) _).alloc (fun _ h => h) _
  obtain ⟨B, hB⟩ : ∃ B, w.heap.size = B := ⟨_, rfl⟩
  have b0 : W.heap[B]? = some (.cells #[pgV s, .map (some x)] 66 (0, 0)) := by
    rw [← hW, ← hB, Lib.alloc_old _ _ _ (by simp)]
    exact heap_alloc_new w _
  have hT : MpAt cnV (B + 1) 0 (fun _ => none) W := by
    have := MpAt.new (V := cnV) (w.alloc (.cells #[pgV s, .map (some x)] 66))
    rw [World.size_alloc, hB, hW] at this
    exact this
  have H0 : Hid (CnI w x c (B + 1) 0 B s N M (cnR (rs.take 0)) W) := Lib.hid ⟨hm.old hk, by
    have e : cnM (cnR (rs.take 0)) = fun _ => none := by funext q; simp [cnM, cnR]
    rw [e]; exact hT, by have := hm.lt; omega, by omega, b0, hk, fun q => by simp [cnR]⟩
  have HRS := Lib.hid (And.intro hr (And.intro hrl (And.intro hc (And.intro hlen hwf))))
  obtain ⟨D, hown, hsays⟩ := hm.map
  have HD := Lib.hid hsays
  have HOWN := Lib.hid hown
  have hxlt := hm.lt
  have HX := Lib.hid hxlt
  have HW := Lib.hid (And.intro hW hB)
  obtain ⟨n, hn⟩ : ∃ n, rs.length = n := ⟨_, rfl⟩
  have HN := Lib.hid hn
  unfold mmV pgV at *
  rw [hn]
  have hn1 : n ≤ 1000 := by omega
  clear hm hr hc hW hk b0 hT hB hn hown hsays hrl hlen hwf hxlt
  go_enter Try.func24, Try.ntmps24
  have hmm := @run_makeMap Try.prog
  go_upto_region 2 with fail
  clear hmm
  rw [HW.out.1]
  try simp only [World.size_alloc]
  try rw [HW.out.2]
  go_wp2_with fail
  go_loopw [7, 15] (fun _ i wr => ∃ (j : Nat) (V : World), V = wr ∧ i = .int .i64 (j : Int) ∧ j ≤ n ∧ Hid (CnI w x c (B + 1) j B s N M (cnR (rs.take j)) V)) (fun _ i _ => n - (RowKit.intOf i).toNat)
  case atStart => exact ⟨0, _, rfl, rfl, Nat.zero_le _, H0⟩
  case round =>
    obtain ⟨j, V, rfl, rfl, hjn, HJ⟩ := hrel
    clear H0
    by_cases hlt : j < n
    · have hjr : j < rs.length := by rw [HN.out]; exact hlt
      obtain ⟨t1, t2, t3, t4⟩ := rg_idx j n hlt hn1
      obtain ⟨gk, off, rfl, hgl, hcl⟩ := HRS.out.1.cells (by omega)
      have e0 := hcl j hjr
      have e1 : V.cell? ⟨gk, off + j, none⟩ = some (.int .i64 (rs.getD j 0)) := (World.cell?_of_block (a := ⟨gk, off + j, none⟩) (HJ.out.kept.block gk hgl)).trans e0
      obtain ⟨r, hr⟩ : ∃ r, rs[j] = r := ⟨_, rfl⟩
      have hrd : rs.getD j 0 = r := by rw [List.getD_eq_getElem?_getD, List.getElem?_eq_getElem hjr]; exact hr
      rw [hrd] at e1
      have hwr := HRS.out.2.2.2.2 rs[j] (List.getElem_mem hjr)
      rw [hr] at hwr
      have hst : ∀ q, cnR (rs.take (j + 1)) q = cnR (rs.take j) q + (if q = r ∧ r ≠ 0 then 1 else 0) := fun q => by
        rw [List.take_add_one, List.getElem?_eq_getElem hjr, hr]
        exact cnR_snoc _ _ _
      by_cases h0 : r = 0
      · have HJ2 : Hid (CnI w x c (B + 1) (j + 1) B s N M (cnR (rs.take (j + 1))) V) := Lib.hid ((HJ.out.nLe (Nat.le_succ _)).cEq fun q => by rw [hst, if_neg (fun e => e.2 h0)]; rfl)
        subst h0
        clear hcl e0 hrd hr hwr hst hjr HJ t3
        go_wp2_with fail
        go_roundw
        case rel => exact ⟨j + 1, _, rfl, congrArg (Value.int .i64) (rg_succ j), by omega, HJ2⟩
        case measure => simp only [RowKit.intOf]; exact rg_meas j n hlt
      · have hlk := HJ.out.look r hwr
        obtain ⟨V2, hup, hI2, -, -⟩ := HJ.out.up (by unfold maxLen; omega) r hwr
        have hcb := HJ.out.cb r
        have HJ2 : Hid (CnI w x c (B + 1) (j + 1) B s N M (cnR (rs.take (j + 1))) V2) := Lib.hid (hI2.cEq fun q => by
          rw [hst]
          unfold cnUp
          by_cases hq : q = r
          · rw [if_pos hq, if_pos ⟨hq, h0⟩, hq]
          · rw [if_neg hq, if_neg (fun e => hq e.1)]; rfl)
        obtain ⟨cq, hcq⟩ : ∃ cq, cnR (rs.take j) r = cq := ⟨_, rfl⟩
        rw [hcq] at hlk hup hcb
        obtain ⟨k2, hk2, hk3, hk4⟩ := cn_num cq (by omega)
        rw [hk2] at hup
        have z0 : (r == 0) = false := by rw [beq_eq_false_iff_ne]; exact h0
        clear hcl e0 hrd hr hwr hst hjr HJ t3 hI2 hcq hk2 hcb
        go_wp2_with fail
        go_roundw
        case rel => exact ⟨j + 1, _, rfl, congrArg (Value.int .i64) (rg_succ j), by omega, HJ2⟩
        case measure => simp only [RowKit.intOf]; exact rg_meas j n hlt
    · obtain ⟨u1, u2⟩ := rg_ge hlt
      have HJ1 : Hid (CnI w x c (B + 1) n B s N M (cnR rs) V) := Lib.hid (by
        have := HJ.out
        rw [show j = n by omega, List.take_of_length_le (by rw [HN.out]; exact Nat.le_refl _)] at this
        exact this)
      have q1 : V.cell? ⟨B, 1, none⟩ = some (.map (some x)) := by simp [World.cell?, HJ1.out.box]
      have hown : V.ownsMap Try.prog 3 (mpR lfV9) x c D := mpBlock HOWN.out (HJ1.out.kept.block x HX.out)
      clear HJ
      go_wp2_with (first | (at_range; refine wpList_range_own _ rfl _ 64 rfl 3 27 mpLaw Try.underlying64 (mpR lfV9) x c D rfl hown ?_; intro w0 hrg0 hg0 hs0))
      have HR0 : Hid (w0.ranges Try.prog 3 (mpR lfV9) x V.heap.size c D (Maps.has D) (Maps.size D) ∧ Maps.size D ≤ c ∧ CnI w x c (B + 1) n B s N M (cnR rs) w0 ∧ V.heap.size < w0.heap.size) := Lib.hid ⟨hrg0, hown.size_le, HJ1.out.old (grown_kept0 hg0), by omega⟩
      obtain ⟨R, hR⟩ : ∃ R, V.heap.size = R := ⟨_, rfl⟩
      have HRR : Hid (R ≠ B + 1 ∧ w.heap.size ≤ R ∧ B < R) := Lib.hid (by
        have h1 := HJ1.out.cn.lt
        have h2 := HJ1.out.kept.size
        have h3 := (Array.getElem?_eq_some_iff.1 HJ1.out.box).1
        exact ⟨by omega, by omega, by omega⟩)
      rw [hR] at HR0 ⊢
      clear hrg0 hg0 hs0 hown q1 hR HJ1 u1 u2
      go_wp2_with fail
      go_loopw [9, 11] (fun _ _ wr => ∃ (t cnt : Nat) (left : Lit → Bool) (U : World), U = wr ∧ Hid (U.ranges Try.prog 3 (mpR lfV9) x R c D left cnt ∧ t + cnt ≤ c ∧ (∀ q, left (.int .i64 q) = true → (M q).isSome = true) ∧ CnI w x c (B + 1) (n + 1000 * t) B s N M (cnA N rs fun q => (M q).isSome && !left (.int .i64 q)) U ∧ R < U.heap.size)) (fun _ _ wr => wr.rangeLeft x R)
      case atStart => exact ⟨0, _, _, _, rfl, Lib.hid ⟨HR0.out.1, by have := HR0.out.2.1; omega, fun q h => by rw [← HD.out.has]; exact h, HR0.out.2.2.1.cEq fun q => by
        unfold cnA
        have : cnP N (fun q => (M q).isSome && !Maps.has D (.int .i64 q)) q = 0 := cnP_none N (fun z => by rw [HD.out.has]; cases (M z).isSome <;> rfl) q
        rw [this]; rfl, HR0.out.2.2.2⟩⟩
      case round =>
        obtain ⟨t, cnt, left, U, rfl, HU⟩ := hrel
        clear HR0
        have hrg := HU.out.1
        go_wp2_with (first | (at_next; refine wpList_next_ranges _ rfl _ rfl 3 mpLaw (mpR lfV9) (fun q : Int => .int .i64 q) lfV9 invK9 invV9 x R c D left cnt rfl hrg ?_ ?_))
        · intro hc0 hl0
          have HE : Hid (CnS w N rs M (.returned (.map (some (B + 1)))) U) := Lib.hid (by
            have h1 := HU.out.2.2.2.1
            refine ⟨B + 1, _, rfl, (h1.cEq fun q => ?_).cn, h1.yn, h1.kept⟩
            unfold cnA
            rw [cnP_congr N (P := fun q => (M q).isSome && !left (.int .i64 q)) (Q := fun q => (M q).isSome) fun z => by rw [hl0]; simp])
          clear HU hrg hl0 hc0
          go_wp2_with fail
          go_ret
          exact HE.out
        · intro q z kl yv yp w1 cnt1 hkey hlk hv hat hrg1 hlt1 hg1 hs1 hen
          obtain ⟨hkl, hwq⟩ := keyLit9 hkey
          subst hkl
          have hMz : M q = some z := by
            obtain ⟨z', hz'⟩ := Option.isSome_iff_exists.1 (HU.out.2.2.1 q hlk)
            have h1 := HD.out.at' q z' hz' (.held none)
            rw [hat, ] at h1
            rw [mpR_mk lfV9_inj z] at hv
            simp only [Option.some.injEq, Prod.mk.injEq] at hv
            rw [← hv.1] at h1
            simp only [DataW.held.injEq] at h1
            rw [hz', h1]
          obtain ⟨i, hi, g, cp, e1, e2, -, -⟩ := HU.out.2.2.2.1.mm.node q z hMz
          have hR1 : ∃ o1 a1 a2 a3, U.heap[R]? = some (.mapIter o1 a1 a2 a3) := by
            obtain ⟨es, clock, since, seen, c0, _, _, _, _, h5, _⟩ := hrg
            exact ⟨_, _, _, _, h5⟩
          obtain ⟨o1, a1, a2, a3, hR1⟩ := hR1
          have hI1 := HU.out.2.2.2.1.step hR1 hg1 HRR.out.2.1
          have hP : ∀ z : Int, ((M z).isSome && !(left (.int .i64 z) && !(Lit.int .i64 z).sameKey (.int .i64 q))) = (((M z).isSome && !left (.int .i64 z)) || decide (z = ((i + 1 : Nat) : Int))) := fun z => by
            rw [sameKey9, ← e1]
            by_cases hzq : z = q
            · subst hzq
              rw [hMz]; simp
            · simp [hzq]
          have hP0 : ((M ((i + 1 : Nat) : Int)).isSome && !left (.int .i64 ((i + 1 : Nat) : Int))) = false := by rw [← e1, hlk]; simp
          have hC : ∀ q' : Int, cnA N rs (fun z => (M z).isSome && !(left (.int .i64 z) && !(Lit.int .i64 z).sameKey (.int .i64 q))) q' = cnA N rs (fun z => (M z).isSome && !left (.int .i64 z)) q' + mlt N i q' := fun q' => by
            unfold cnA
            rw [cnP_congr N hP, cnP_add N _ hi hP0]
            omega
          obtain ⟨lv, hlv⟩ : ∃ lv, N[i].1 = lv := ⟨_, rfl⟩
          obtain ⟨len, hlen⟩ : ∃ len, N[i].2.length = len := ⟨_, rfl⟩
          have hlen1 : len ≤ 1000 := by rw [← hlen]; exact HRS.out.2.2.2.1 i hi
          rw [hlv, hlen] at e2
          subst e2
          have HS := Lib.hid (And.intro hMz (And.intro e1 (And.intro hlv hlen)))
          have HL2 : Hid (∀ z, (left (.int .i64 z) && !(Lit.int .i64 z).sameKey (.int .i64 q)) = true → (M z).isSome = true) := Lib.hid fun z hz => HU.out.2.2.1 z (by rw [Bool.and_eq_true] at hz; exact hz.1)
          have HC := Lib.hid hC
          have HT := Lib.hid (And.intro (show t + 1 + cnt1 ≤ c by have := HU.out.2.1; omega) (And.intro hrg.left_eq hlt1))
          unfold lfV9 lf9 leafV at hen
          simp only at hen
          have hRl : R < w1.heap.size := by rw [hs1]; exact HU.out.2.2.2.2
          obtain ⟨W2, hW2⟩ : ∃ W2, w1.alloc (.cells #[.int .i64 (lv : Int), .slice (some ⟨g, 0, none⟩) len cp] 27) = W2 := ⟨_, rfl⟩
          have hk2 : KeptIn (· < w1.heap.size) w1 W2 := by rw [← hW2]; exact (KeptIn.refl _ w1).alloc (fun _ h => h) _
          have hrg2 := hrg1.alloc (.cells #[.int .i64 (lv : Int), .slice (some ⟨g, 0, none⟩) len cp] 27)
          rw [hW2] at hrg2
          have hI2 := hI1.old hk2
          by_cases h0 : lv = 0
          · have hm0 : ∀ q', mlt N i q' = 0 := fun q' => by
              unfold mlt
              rw [List.getElem?_eq_getElem hi]
              simp only
              rw [if_pos (hlv.trans h0)]
            have HN2 : Hid (W2.ranges Try.prog 3 (mpR lfV9) x R c D (fun z => left z && !z.sameKey (.int .i64 q)) cnt1 ∧ t + 1 + cnt1 ≤ c ∧ (∀ z, (left (.int .i64 z) && !(Lit.int .i64 z).sameKey (.int .i64 q)) = true → (M z).isSome = true) ∧ CnI w x c (B + 1) (n + 1000 * (t + 1)) B s N M (cnA N rs fun z => (M z).isSome && !(left (.int .i64 z) && !(Lit.int .i64 z).sameKey (.int .i64 q))) W2 ∧ R < W2.heap.size) := Lib.hid ⟨hrg2, HT.out.1, HL2.out, (hI2.nLe (by omega)).cEq fun q' => by rw [HC.out, hm0]; rfl, Nat.lt_of_lt_of_le hRl hk2.size⟩
            have HW2 := Lib.hid hW2
            subst h0
            clear hkey hlk hv hat hrg1 hg1 hs1 hMz e1 hlv hlen hR1 hI1 hP hP0 hC hrg2 hk2 hI2 hm0 hrg HU HL2 HC hRl hlt1 hlen1 hwq hW2
            go_wp2_with fail
            go_roundw
            case rel => exact ⟨t + 1, cnt1, _, _, rfl, by rw [show w1.alloc (.cells #[.int .i64 0, .slice (some ⟨g, 0, none⟩) len cp] 27) = W2 from HW2.out]; exact HN2⟩
            case measure =>
              have h1 := HN2.out.1.left_eq
              rw [← HW2.out] at h1
              have h2 := HT.out.2.1
              have h3 := HT.out.2.2
              have h4 : (w1.alloc (.cells #[.int .i64 0, .slice (some ⟨g, 0, none⟩) len cp] 27)).rangeLeft x R = cnt1 := h1
              omega
          · have z0 : ((lv : Int) == 0) = false := by rw [beq_eq_false_iff_ne]; omega
            have hml : ∀ q', mlt N i q' = vls N[i].2 q' := fun q' => by
              unfold mlt
              rw [List.getElem?_eq_getElem hi]
              simp only
              rw [if_neg (fun e => h0 (hlv.symm.trans e))]
            have HML := Lib.hid hml
            obtain ⟨A, hA⟩ : ∃ A, cnA N rs (fun z => (M z).isSome && !left (.int .i64 z)) = A := ⟨_, rfl⟩
            rw [hA] at HC
            have HR2 : Hid (W2.ranges Try.prog 3 (mpR lfV9) x R c D (fun z => left z && !z.sameKey (.int .i64 q)) cnt1 ∧ CnI w x c (B + 1) (n + 1000 * t + 0) B s N M (fun q' => A q' + vls (N[i].2.take 0) q') W2 ∧ R < W2.heap.size) := Lib.hid ⟨hrg2, hI2.cEq fun q' => by rw [← hA]; simp [vls], Nat.lt_of_lt_of_le hRl hk2.size⟩
            have HW2 := Lib.hid hW2
            have hlI : (len : Int) ≤ 1000 := by omega
            have hnt : n + 1000 * t ≤ 90002000 := by have := HT.out.1; have := HRS.out.2.2.1; omega
            clear hkey hlk hv hat hrg1 hg1 hs1 hMz e1 hlv hlen hR1 hI1 hP hP0 hC hrg2 hk2 hI2 hrg HU hRl hlt1 hwq hW2 hml hA h0
            go_wp2_with fail
            rw [show w1.alloc (.cells #[.int .i64 (lv : Int), .slice (some ⟨g, 0, none⟩) len cp] 27) = W2 from HW2.out]
            go_loopw [11, 39] (fun _ i2 wr => ∃ (k : Nat) (X : World), X = wr ∧ i2 = .int .i64 (k : Int) ∧ k ≤ len ∧ Hid (X.ranges Try.prog 3 (mpR lfV9) x R c D (fun z => left z && !z.sameKey (.int .i64 q)) cnt1 ∧ CnI w x c (B + 1) (n + 1000 * t + k) B s N M (fun q' => A q' + vls (N[i].2.take k) q') X ∧ R < X.heap.size)) (fun _ i2 _ => len - (RowKit.intOf i2).toNat)
            case atStart => exact ⟨0, _, rfl, rfl, Nat.zero_le _, HR2⟩
            case round =>
              obtain ⟨k, X, rfl, rfl, hkl, HX2⟩ := hrel
              clear HR2
              have k0 : (0 : Int) ≤ (k : Int) := by omega
              by_cases hlk2 : k < len
              · have k1 : (k : Int) < (len : Int) := by omega
                obtain ⟨q3, -, -, -⟩ := HX2.out.2.1.mm.at9 HS.out.2.1 hi HS.out.1
                have hkN : k < N[i].2.length := by rw [HS.out.2.2.2]; exact hlk2
                obtain ⟨c1, c2⟩ := psG9 q3 hkN
                have hsn : ∀ q', vls (N[i].2.take (k + 1)) q' = vls (N[i].2.take k) q' + (if q' = wrap64 ((valAt N[i].2 k : Nat) : Int) then 1 else 0) := fun q' => by
                  rw [List.take_add_one, List.getElem?_eq_getElem hkN, valAt_get hkN]
                  exact vls_snoc _ _ _
                obtain ⟨kk, hkk⟩ : ∃ kk, keyAt N[i].2 k = kk := ⟨_, rfl⟩
                obtain ⟨vv, hvv⟩ : ∃ vv, valAt N[i].2 k = vv := ⟨_, rfl⟩
                rw [hkk] at c1
                rw [hvv] at c2 hsn
                obtain ⟨zz, hzz⟩ : ∃ zz, wrap64 (vv : Int) = zz := ⟨_, rfl⟩
                have hwz : (Lit.int .i64 zz).wf = true := by rw [← hzz]; exact wf_wrap64 _
                rw [hzz] at hsn
                obtain ⟨X2, hX2⟩ : ∃ X2, X.alloc (.cells #[.int .u64 (kk : Int), .int .u64 (vv : Int)] 82) = X2 := ⟨_, rfl⟩
                have hkX : KeptIn (· < X.heap.size) X X2 := by rw [← hX2]; exact (KeptIn.refl _ X).alloc (fun _ h => h) _
                have hI := HX2.out.2.1.old hkX
                have hrgX := HX2.out.1.alloc (.cells #[.int .u64 (kk : Int), .int .u64 (vv : Int)] 82)
                rw [hX2] at hrgX
                have hlkp := hI.look zz hwz
                obtain ⟨X3, hup, hI3, hk3, hz3⟩ := hI.up (by unfold maxLen; omega) zz hwz
                have hcb := hI.cb zz
                have HX3 : Hid (X3.ranges Try.prog 3 (mpR lfV9) x R c D (fun z => left z && !z.sameKey (.int .i64 q)) cnt1 ∧ CnI w x c (B + 1) (n + 1000 * t + (k + 1)) B s N M (fun q' => A q' + vls (N[i].2.take (k + 1)) q') X3 ∧ R < X3.heap.size) := Lib.hid ⟨ranges_block hrgX (hk3.block x hI.yx.symm) (hk3.block R HRR.out.1), hI3.cEq fun q' => by
                    rw [hsn]
                    unfold cnUp
                    by_cases hq : q' = zz
                    · subst hq; simp; omega
                    · rw [if_neg hq, if_neg hq, Nat.add_zero], by rw [hz3]; exact Nat.lt_of_lt_of_le HX2.out.2.2 hkX.size⟩
                obtain ⟨cq, hcq⟩ : ∃ cq, (A zz + vls (N[i].2.take k) zz) = cq := ⟨_, rfl⟩
                simp only [hcq] at hlkp hup hcb
                obtain ⟨y2, hy2, hy3, hy4⟩ := cn_num cq (by omega)
                rw [hy2] at hup
                have HZZ := Lib.hid hzz
                rw [← hX2] at hlkp hup
                clear hsn hkk hvv hwz hX2 hkX hI hrgX hI3 hk3 hz3 hcb hcq hy2 HX2 q3 hkN
                go_wp2_with fail
                go_roundw
                case rel => exact ⟨k + 1, _, rfl, by go_num, by omega, HX3⟩
                case measure => simp only [RowKit.intOf]; omega
              · have k1 : ¬ (k : Int) < (len : Int) := by omega
                have HN2 : Hid (X.ranges Try.prog 3 (mpR lfV9) x R c D (fun z => left z && !z.sameKey (.int .i64 q)) cnt1 ∧ t + 1 + cnt1 ≤ c ∧ (∀ z, (left (.int .i64 z) && !(Lit.int .i64 z).sameKey (.int .i64 q)) = true → (M z).isSome = true) ∧ CnI w x c (B + 1) (n + 1000 * (t + 1)) B s N M (cnA N rs fun z => (M z).isSome && !(left (.int .i64 z) && !(Lit.int .i64 z).sameKey (.int .i64 q))) X ∧ R < X.heap.size) := Lib.hid ⟨HX2.out.1, HT.out.1, HL2.out, (HX2.out.2.1.nLe (by omega)).cEq fun q' => by rw [HC.out, HML.out, List.take_of_length_le (by rw [HS.out.2.2.2]; omega)], HX2.out.2.2⟩
                clear HX2
                go_wp2_with fail
                go_roundw
                case rel => exact ⟨t + 1, cnt1, _, _, rfl, HN2⟩
                case measure =>
                  have h1 := HN2.out.1.left_eq
                  have h2 := HT.out.2.1
                  have h3 := HT.out.2.2
                  omega

end Go.Proofs.Ytdbohcdjamhdjaa
/- A page that isn't there: package tree's lead.read of a memo, and its survey of a root. -/
set_option linter.unusedVariables false
namespace Go.Proofs.Ytdbohcdjamhdjaa
open Go.RowKit

set_option maxHeartbeats 2000000 in
set_option maxRecDepth 100000 in
theorem trLeadBadM {w : World} {s room c k : Nat} {N : List Nd} {D : Nat → Prop} {M : Int → Option (Option Lf9)} (h : IsMm w k c N M) (hS : IsSh w s room N D) (p : Nat) (hpw : (Lit.int .i64 (p : Int)).wf = true) (hb : (p : Int) < 1 ∨ (N.length : Int) < (p : Int)) (root : Bool) (lv : Int) (low high : Nat) :
    Calls Try.prog 47 #[leadV p root lv low high, mmI s k] w (BadR w) := by
  obtain ⟨W, hW⟩ : ∃ W, (w.alloc (.cells #[.int .i64 (p : Int), .bool root, .int .i64 lv, .int .u64 (low : Int), .int .u64 (high : Int)] 111)).alloc (.cells #[.int .i64 0, .slice none 0 0] 27) = W := ⟨_, rfl⟩
  have hkW : KeptIn (· < w.heap.size) w W := by rw [← hW]; exact ((KeptIn.refl _ w).alloc (fun _ h => h) _).alloc (fun _ h => h) _
  have HC := Lib.hid (trBadM (h.old hkW) (hS.old hkW) (p : Int) hpw hb)
  obtain ⟨x, hx⟩ : ∃ x, w.heap.size = x := ⟨_, rfl⟩
  have hbd : BoxD x p root lv low high W := by
    rw [← hW, ← hx]
    exact (BoxD.new w p root lv low high).kept ((KeptIn.refl _ _).alloc (fun _ h => h) _) (by simp)
  have hbl : BoxL (x + 1) 0 none 0 0 W := by
    rw [← hW, ← hx, show w.heap.size + 1 = (w.alloc (.cells #[.int .i64 (p : Int), .bool root, .int .i64 lv, .int .u64 (low : Int), .int .u64 (high : Int)] 111)).heap.size by simp]
    exact heap_alloc_new _ _
  have p0 := hbd.c0
  have HWB := Lib.hid (And.intro hkW (And.intro hbl hx))
  unfold leadV mmI mmV pgV at *
  clear hkW hbd hbl h hpw hb hS
  go_enter Try.func47, Try.ntmps47
  go_wp2_with (go_at_call 69; refine HC.out.mono ?_)
  rintro e V ⟨rfl, kV⟩
  unfold leafV
  obtain ⟨U, hU⟩ : ∃ U, V.alloc (.cells #[.int .i64 0, .slice none 0 0] 27) = U := ⟨_, rfl⟩
  have hkU : KeptIn (· < V.heap.size) V U := by rw [← hU]; exact (KeptIn.refl _ V).alloc (fun _ h => h) _
  have hbl := (HWB.out.2.1.kept kV HWB.out.2.1.lt).kept hkU (HWB.out.2.1.kept kV HWB.out.2.1.lt).lt
  have hkw : KeptIn (· < w.heap.size) w U := (HWB.out.1.trans (kV.mono fun j h => Nat.lt_of_lt_of_le h HWB.out.1.size)).trans (hkU.mono fun j h => Nat.lt_of_lt_of_le h (Nat.le_trans HWB.out.1.size kV.size))
  have HU := Lib.hid hU
  have HQ := Lib.hid (And.intro hbl hkw)
  have z0 := hbl.c0; have z1 := hbl.c1; have f0 := hbl.f0; have f1 := hbl.f1
  clear hkU hbl hkw kV hU
  go_upto_region 2 with fail
  rw [HU.out]
  have hset := BoxL.set (lv' := (0 : Int)) (a' := none) (n' := 0) (cap' := 0) HQ.out.1
  have hkk := (HQ.out.2.setCell (p := ⟨x + 1, 0, none⟩) (by simp [HWB.out.2.2]) (.int .i64 0)).setCell (p := ⟨x + 1, 1, none⟩) (by simp [HWB.out.2.2]) (.slice none 0 0)
  have HS := Lib.hid (And.intro hset hkk)
  clear hset hkk
  go_wp2_with fail
  try simp only [Exit.inBlock, Exit.then]
  refine bodyPost_ret (results_leaf rfl _ _ (x + 1) _ _ _ _ rfl HS.out.1) rfl ?_
  exact ⟨rfl, HS.out.2⟩

theorem bd_new {wc V : World} (hk : KeptIn (· < wc.drew.heap.size) wc.drew V) {o : Obj} : KeptIn (· < wc.heap.size) wc (V.alloc o) :=
  (((KeptIn.refl _ wc).drew).trans hk).alloc (fun _ h => h) _
theorem bd_old {wc V : World} {o : Obj} (hk : KeptIn (· < (wc.alloc o).drew.heap.size) (wc.alloc o).drew V) {a b : Value} : KeptIn (· < wc.heap.size) wc ((V.setCell ⟨wc.heap.size, 0, none⟩ a).setCell ⟨wc.heap.size, 1, none⟩ b) := by
  have h1 : KeptIn (· < wc.heap.size) wc V := (((KeptIn.refl _ wc).alloc (fun _ h => h) _).drew).trans (hk.mono fun k h => Nat.lt_of_lt_of_le h (((KeptIn.refl (· < wc.heap.size) wc).alloc (fun _ h => h) o).drew).size)
  exact (h1.setCell (p := ⟨wc.heap.size, 0, none⟩) (by simp) _).setCell (p := ⟨wc.heap.size, 1, none⟩) (by simp) _

/-- The tree isn't sound. -/
def SoX (w : World) (S B0 x : Nat) (e : Ending) (w' : World) : Prop := e = .returned (.bool false) ∧ KeptIn (SdZ w S B0 x) w w'

set_option maxRecDepth 100000 in
set_option maxHeartbeats 4000000 in
theorem trSoundBad {N : List Nd} {s room xm : Nat} {root : Bool} {lv : Int} {lo hi p : Nat} {w : World} {D : Nat → Prop} {S B0 c : Nat} {v : Value} {ms : List Int} {M : Int → Option (Option Lf9)} (hsh : IsSh w s room N D) (hD : ∀ k, D k → k < S ∧ k ≠ xm) (h : SvU w S (mmI s xm) B0 v ms) (hmm0 : IsMm w xm c N M)
    (hpw : (Lit.int .i64 (p : Int)).wf = true) (hb : (p : Int) < 1 ∨ (N.length : Int) < (p : Int)) (hp : (p : Int) ∉ ms) (hml : ms.length ≤ 500) :
    Calls Try.prog 57 #[.pointer (some ⟨S, 0, none⟩), leadV p root lv lo hi] w (SoX w S B0 xm) := by
  obtain ⟨a, cap, rfl⟩ := row_sliceI h.row
  obtain ⟨m, hm⟩ : ∃ m, ms.length = m := ⟨_, rfl⟩
  rw [hm] at h hml
  obtain ⟨W, hW⟩ : ∃ W, w.alloc (.cells #[.int .i64 (p : Int), .bool root, .int .i64 lv, .int .u64 (lo : Int), .int .u64 (hi : Int)] 111) = W := ⟨_, rfl⟩
  have hkW : KeptIn (· < w.heap.size) w W := by rw [← hW]; exact (KeptIn.refl _ w).alloc (fun _ h => h) _
  have hbd : BoxD w.heap.size p root lv lo hi W := by rw [← hW]; exact BoxD.new w p root lv lo hi
  have hsv := h.old hkW
  have hmm := hmm0.old hkW
  have hshW := hsh.old hkW
  have hSW : W.heap[S]? = some (.cells #[mmI s xm, .slice a m cap, .int .i64 0] 125 (0, 0)) := hsv.box
  have c0 : W.cell? ⟨S, 0, none⟩ = some (mmI s xm) := (cell_of_row _ _ 0 _ _ _ hSW).trans rfl
  have c1 : W.cell? ⟨S, 1, none⟩ = some (.slice a m cap) := (cell_of_row _ _ 1 _ _ _ hSW).trans rfl
  have hrowW : W.ownsRow B0 3 1 (.slice a m cap) m (cellsI ms) := by have := hsv.row; rw [hm] at this; exact this
  have hI : IntsL W a ms := by
    have h1 := hrowW
    rw [← hm] at h1
    exact rowIntsL h1 (by unfold maxLen; omega)
  have HQ := Lib.hid fun n => iContQ hI (x := (p : Int)) (cap := cap) hm (decide_eq_false hp) n
  have d0 := hbd.c0
  have d1 := hbd.c1
  have d2 := hbd.c2
  have d3 := hbd.c3
  have d4 := hbd.c4
  obtain ⟨x, hx⟩ : ∃ x, w.heap.size = x := ⟨_, rfl⟩
  have HG : Hid (∀ (nq : Nat) (w1 : World), (((W.drewN nq).drew).alloc (.cells #[.int .i64 (p : Int)] 3)).grownBy w1 (Value.slice a m cap).ownBlock → w1.cell? ⟨S, 1, none⟩ = some (.slice a m cap) ∧ w1.frozen? ⟨S, 1, none⟩ = false) := Lib.hid fun nq w1 hg => by
    have hSlt : S < W.heap.size := Nat.lt_of_lt_of_le hsv.lt hsv.le
    have hn := rowS_ne hrowW hSW (by decide)
    have h1 : w1.heap[S]? = W.heap[S]? := (hg.block _ (by simp; exact Nat.lt_succ_of_lt hSlt) (fun e => hn e.symm)).trans (Lib.alloc_old ((W.drewN nq).drew) _ _ hSlt)
    exact ⟨(World.cell?_of_block (a := ⟨S, 1, none⟩) h1).trans ((cell_of_row _ _ 1 _ _ _ hSW).trans rfl), (World.frozen?_of_block (a := ⟨S, 1, none⟩) h1).trans (by simp [World.frozen?, hSW])⟩
  have HM : Hid (∀ (nq : Nat) (w1 : World) (gg cap' : Nat), (((W.drewN nq).drew).alloc (.cells #[.int .i64 (p : Int)] 3)).grownBy w1 (Value.slice a m cap).ownBlock → w1.ownsRow B0 3 1 (.slice (some ⟨gg, 0, none⟩) (m + 1) cap') (m + 1) (cellsI ms ++ [.int .i64 (p : Int)]) →
      SoM9 w S s B0 xm c x p room N D M root lv lo hi (ms ++ [(p : Int)]) (w1.setCell ⟨S, 1, none⟩ (.slice (some ⟨gg, 0, none⟩) (m + 1) cap'))) := Lib.hid fun nq w1 gg cap' hg hown => by
    refine so_met9 (V := (W.drewN nq).drew) ⟨hsv.box, hsv.row, hsv.lt, hsv.le⟩ ?_ (hshW.old ((KeptIn.refl _ W).drewN nq).drew) hD (sdz_old (hkW.drewN nq).drew) (Nat.le_of_eq hx) (hmm.old ((KeptIn.refl _ W).drewN nq).drew) hm hg hown
    rw [hx] at hbd
    exact hbd
  have hB0 : B0 ≤ W.heap.size := hsv.le
  have hS0 : S < B0 := hsv.lt
  have HROW := Lib.hid hrowW
  have hSx : S ≠ x := by rw [← hx]; have := h.lt; have := h.le; omega
  have HRD : Hid (∀ V, IsMm V xm c N M → IsSh V s room N D → Calls Try.prog 47 #[leadV p root lv lo hi, mmI s xm] V (BadR V)) := Lib.hid fun V hV hV2 => trLeadBadM hV hV2 p hpw hb root lv lo hi
  obtain ⟨ip, hip, hp0, hp1, hp2⟩ := info_parts infoInt8
  clear hrowW hshW hsv hkW hbd hp hI hSW h hsh hD hm hmm hmm0 hpw hb
  unfold mmI mmV pgV leadV at *
  rw [hx] at d0 d1 d2 d3 d4
  go_enter Try.func57, Try.ntmps57
  go_wp2_with fail
  go_quiet ((go_at_call 79; exact Calls.quiet_of_same (HQ.out _)))
  go_upto_region 3 with fail
  go_cut [] from 8 (fun wx => Hid (SoM9 w S s B0 xm c x p room N D M root lv lo hi (ms ++ [(p : Int)]) wx))
  case first =>
    go_wp2_with fail
    have c1' : ((W.drewN nq).drew).cell? ⟨S, 1, none⟩ = some (.slice a m cap) := c1
    have x0' : ((W.drewN nq).drew).cell? ⟨x, 0, none⟩ = some (.int .i64 (p : Int)) := d0
    have hrow8 : ((W.drewN nq).drew).ownsRow B0 3 1 (.slice a m cap) m (cellsI ms) := HROW.out
    have hsz8 : B0 ≤ ((W.drewN nq).drew).heap.size := hB0
    have hSV : S < ((W.drewN nq).drew).heap.size := Nat.lt_of_lt_of_le hS0 hB0
    have cc8 : (((W.drewN nq).drew).alloc (.cells #[.int .i64 (p : Int)] 3)).cell? ⟨S, 1, none⟩ = some (.slice a m cap) := (World.cell?_of_block (a := ⟨S, 1, none⟩) (Lib.alloc_old ((W.drewN nq).drew) _ _ hSV)).trans c1
    have hgr8 := HG.out nq
    have hme8 := HM.out nq
    obtain ⟨V, hV⟩ : ∃ V, (W.drewN nq).drew = V := ⟨_, rfl⟩
    rw [hV] at c1' x0' hrow8 hsz8 hgr8 cc8 hme8
    clear hSV
    go_region_law (first
      | (refine step_append_lies _ (by rfl) _ _ 23 (by rfl) B0 3 ip _ 1 8 Try.underlying23 hip hp0 hp1 hp2 rfl (by omega) (.slice a m cap) m _ (by rfl) (hrow8.alloc _) ⟨V.heap.size, 0, none⟩ 1 1 [.int .i64 (p : Int)] (by rfl) (by rfl) (World.news_of_block (cs := #[.int .i64 (p : Int)]) (t := 3) (fr := (0, 0)) (heap_alloc_new V _)) (by simp [Value.oneCell']) (by omega) (by unfold maxLen; omega) (by omega) (by simp; omega) (V.heap.size + 1) (by simp) ?_; intro gg cap' w1 hown1 hgrow hat hlt1; obtain ⟨e0', ef⟩ := hgr8 w1 hgrow; have hmm := hme8 w1 gg cap' hgrow hown1))
    all_goals
      clear hgr8 hme8 hrow8
      go_wp2_with fail
      go_meet
      case rel => exact Lib.hid hmm
  case rest =>
    have HC := hcut
    clear hcut HM HG HQ HROW c0 c1 d0 d1 d2 d3 d4
    have HF := Lib.hid fun V (hk : KeptIn (fun j => j < wc.heap.size ∧ j ≠ xm) wc V) => HC.out.facts hk
    obtain ⟨c0, d0, d1, d2, d3, d4⟩ := HC.out.facts (KeptIn.refl _ wc)
    have HRC : Hid (∀ V, KeptIn (· < wc.heap.size) wc V → _) := Lib.hid fun V hk => HRD.out V (HC.out.choose_spec.2.2.2.2.2.2.old hk) (HC.out.choose_spec.2.2.1.old hk)
    have HKW : Hid (∀ V, KeptIn (· < wc.heap.size) wc V → KeptIn (SdZ w S B0 xm) w V) := Lib.hid fun V hk => sdz_trans HC.out.choose_spec.2.2.2.2.1 (sdz_old hk)
    unfold mmI mmV pgV at HF c0
    clear HC
    go_upto_region 4 with fail
    go_cut [5, 6] from 8 (fun s5 s6 wx => s6 = .int .i64 9 ∧ Hid (KeptIn (SdZ w S B0 xm) w wx))
    case first =>
      go_wp2_with fail
      go_region_held3 (fun w' => w'.cell? ⟨S, 0, none⟩ = some (.iface 66 (.agg #[.iface 28 (.pointer (some ⟨s, 0, none⟩)), .map (some xm)])) ∧ w'.cell? ⟨x, 0, none⟩ = some (.int .i64 (p : Int)) ∧ w'.cell? ⟨x, 1, none⟩ = some (.bool root) ∧ w'.cell? ⟨x, 2, none⟩ = some (.int .i64 lv) ∧ w'.cell? ⟨x, 3, none⟩ = some (.int .u64 (lo : Int)) ∧ w'.cell? ⟨x, 4, none⟩ = some (.int .u64 (hi : Int)))
        (first | exact ⟨c0, d0, d1, d2, d3, d4⟩ | exact HF.out _ (KeptIn.refl _ _).drew | exact HF.out _ (((KeptIn.refl _ _).alloc (fun _ h => h.1) _).drew) | exact HF.out _ (z_go (KeptIn.refl _ _).drew (hk.mono fun j h => h.1)) | exact HF.out _ (z_go (((KeptIn.refl _ _).alloc (fun _ h => h) _).drew) (hk.mono fun j h => h.1)) | exact HF.out _ ((z_go (KeptIn.refl _ _).drew (hk.mono fun j h => h.1)).alloc (fun _ h => h.1) _) | exact HF.out _ (((z_go (KeptIn.refl _ _).drew (hk.mono fun j h => h.1)).alloc (fun _ h => h.1) _).setCell (fun h => Nat.not_lt.2 hk.size h.1) _) | exact HF.out _ ((((z_go (KeptIn.refl _ _).drew (hk.mono fun j h => h.1)).alloc (fun _ h => h.1) _).setCell (fun h => Nat.not_lt.2 hk.size h.1) _).setCell (fun h => Nat.not_lt.2 hk.size h.1) _) | exact HF.out _ (((z_go (((KeptIn.refl _ _).alloc (fun _ h => h) _).drew) (hk.mono fun j h => h.1)).setCell (by simp) _).setCell (by simp) _))
        (first | (go_at_call 47; first | (refine (HRC.out wc.drew (KeptIn.refl _ _).drew).mono ?_; rintro e V ⟨rfl, hk⟩; unfold leafV) | (refine (HRC.out (wc.alloc (.cells #[.int .i64 0, .slice none 0 0] 27)).drew (((KeptIn.refl _ _).alloc (fun _ h => h) _).drew)).mono ?_; rintro e V ⟨rfl, hk⟩; have hb9 := (show BoxL wc.heap.size 0 none 0 0 (wc.alloc (.cells #[.int .i64 0, .slice none 0 0] 27)).drew from heap_alloc_new wc _).kept (W' := V) hk (Nat.lt_of_lt_of_le (Nat.lt_succ_self _) (Nat.le_of_eq (World.size_alloc _ _).symm)); have e0 := hb9.c0; have e1 := hb9.c1; have g0 := hb9.f0; have g1 := hb9.f1; unfold leafV)))
      · go_wp2_with fail
        go_meet
        case rel =>
          exact ⟨rfl, Lib.hid (HKW.out _ (bd_new hk))⟩
      · go_wp2_with fail
        go_meet
        case rel =>
          exact ⟨rfl, Lib.hid (HKW.out _ (bd_old hk))⟩
    case rest =>
      obtain ⟨rfl, hq⟩ := hcut
      clear HF HRC HKW c0 d0 d1 d2 d3 d4 HRD
      go_wp2_with fail
      go_ret
      exact ⟨rfl, hq.out⟩

end Go.Proofs.Ytdbohcdjamhdjaa
