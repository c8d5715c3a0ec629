import Derived.Test.YtdbanlifneomgaaSd8L
/- Package tree's survey: what a walk over a subtree leaves as it was; how the pages met grow. -/
set_option linter.unusedVariables false
namespace Go.Proofs.Ytdbanlifneomgaa
open Go.RowKit

/-- What a survey leaves as it was: all blocks that there were but its own and those where its pages stand. -/
def SdY (w : World) (S B0 k : Nat) : Prop := k < w.heap.size ∧ k ≠ S ∧ (k < B0 ∨ ∃ cs T fr, w.heap[k]? = some (.cells cs T fr) ∧ T ≠ 3)

theorem SdY.go {w w' : World} {S B0 k : Nat} (h : SdY w S B0 k) (hk : KeptIn (SdY w S B0) w w') : SdY w' S B0 k := by
  refine ⟨Nat.lt_of_lt_of_le h.1 hk.size, h.2.1, ?_⟩
  rcases h.2.2 with h1 | ⟨cs, T, fr, h1, h2⟩
  · exact .inl h1
  · exact .inr ⟨cs, T, fr, (hk.block k h).trans h1, h2⟩
theorem sdy_trans {a b c : World} {S B0 : Nat} (h : KeptIn (SdY a S B0) a b) (k : KeptIn (SdY b S B0) b c) : KeptIn (SdY a S B0) a c := h.trans (k.mono fun _ hk => hk.go h)
theorem sdy_old {a b : World} {S B0 : Nat} (h : KeptIn (· < a.heap.size) a b) : KeptIn (SdY a S B0) a b := h.mono fun _ hk => hk.1
theorem SvAt.old {W W' : World} {S s B0 : Nat} {v : Value} {ms : List Int} (h : SvAt W S s B0 v ms) (hk : KeptIn (· < W.heap.size) W W') : SvAt W' S s B0 v ms :=
  ⟨(hk.block S (Nat.lt_of_lt_of_le h.lt h.le)).trans h.box, rowS_block h.row fun g e => hk.block g (rowS_lt h.row g e).2, h.lt, Nat.le_trans h.le hk.size⟩
theorem sdx_y {V : World} {S s B0 k : Nat} {v : Value} {ms : List Int} (h : SvAt V S s B0 v ms) (hk : SdY V S B0 k) : SdX V S v k := by
  refine ⟨hk.1, hk.2.1, fun e => ?_⟩
  rcases hk.2.2 with h1 | ⟨cs, T, fr, h1, h2⟩
  · have := (rowS_lt h.row k e).1
    omega
  · exact rowS_ne h.row h1 h2 e
theorem sdy_lead {x p S s B0 : Nat} {v : Value} {ms : List Int} {root : Bool} {lv : Int} {lo hi : Nat} {V : World} (h : SvAt V S s B0 v ms) (hb : BoxD x p root lv lo hi V) : SdY V S B0 x :=
  ⟨hb.lt, fun e => by subst e; have := Eq.trans hb.symm h.box; simp at this, .inr ⟨_, _, _, hb, by decide⟩⟩
theorem sdy_leaf {x n cap S s B0 : Nat} {v : Value} {ms : List Int} {lv : Int} {a : Option Addr} {V : World} (h : SvAt V S s B0 v ms) (hb : BoxL x lv a n cap V) : SdY V S B0 x :=
  ⟨hb.lt, fun e => by subst e; have := Eq.trans hb.symm h.box; simp at this, .inr ⟨_, _, _, hb, by decide⟩⟩
theorem sdy_pairs {g S s B0 : Nat} {v : Value} {ms : List Int} {V : World} (h : SvAt V S s B0 v ms) (hb : TyP V g) : SdY V S B0 g := by
  obtain ⟨cs, fr, hb⟩ := hb
  exact ⟨(Array.getElem?_eq_some_iff.1 hb).1, fun e => by subst e; have := Eq.trans hb.symm h.box; simp at this, .inr ⟨_, _, _, hb, by decide⟩⟩
theorem sdy_sh {V V' : World} {s room S B0 : Nat} {N : List Nd} {D : Nat → Prop} {v : Value} {ms : List Int} (h : SvAt V S s B0 v ms) (hsh : IsSh V s room N D) (hD : ∀ k, D k → k < S) (hk : KeptIn (SdY V S B0) V V') : IsSh V' s room N D :=
  hsh.kept (hk.mono fun k hk => ⟨hsh.lt k hk, Nat.ne_of_lt (hD k hk), .inl (by have := hD k hk; have := h.lt; omega)⟩)

theorem row_weakenI {W : World} {B B' n : Nat} {v : Value} {xs : List Value} (h : W.ownsRow B 3 1 v n xs) (hB : B' ≤ B) : W.ownsRow B' 3 1 v n xs := by
  refine ⟨h.1, ?_⟩
  rcases h.2 with h1 | ⟨g, cap, cur, rfl, hg, r⟩
  · exact .inl h1
  · exact .inr ⟨g, cap, cur, rfl, by omega, r⟩
theorem row_sliceI {W : World} {B n : Nat} {v : Value} {xs : List Value} (h : W.ownsRow B 3 1 v n xs) : ∃ a cap, v = .slice a n cap := by
  rcases h.2 with ⟨rfl, rfl⟩ | ⟨g1, cap1, cur, rfl, _⟩
  · exact ⟨none, 0, rfl⟩
  · exact ⟨_, _, rfl⟩

/-- The pages of a subtree are met. -/
def SoP (w : World) (S s B0 : Nat) (ms : List Int) (e : Ending) (w' : World) : Prop := ∃ v, e = .returned (.bool true) ∧ SvAt w' S s B0 v ms ∧ KeptIn (SdY w S B0) w w'

abbrev ofP (g : List Nat) : List Int := g.map Int.ofNat
theorem ofP_append (a b : List Nat) : ofP (a ++ b) = ofP a ++ ofP b := List.map_append ..

/-- What stands at the loop over a node's kids. -/
structure SoF (w : World) (S s B0 x y p g n cg : Nat) (room : Nat) (N : List Nd) (D : Nat → Prop) (root : Bool) (lv : Int) (lo hi : Nat) (L : Int) (ps : Pairs) (v : Value) (ms : List Int) (V : World) : Prop where
  sv : SvAt V S s B0 v ms
  lead : BoxD x p root lv lo hi V
  leaf : BoxL y L (some ⟨g, 0, none⟩) n cg V
  isps : IsPs V (some ⟨g, 0, none⟩) ps
  ty : TyP V g
  sh : IsSh V s room N D
  dS : ∀ k, D k → k < S
  kept : KeptIn (SdY w S B0) w V
  len : ps.length = n
theorem SoF.go {w V V' : World} {S s B0 x y p g n cg room : Nat} {N : List Nd} {D : Nat → Prop} {root : Bool} {lv : Int} {lo hi : Nat} {L : Int} {ps : Pairs} {v v' : Value} {ms ms' : List Int} (h : SoF w S s B0 x y p g n cg room N D root lv lo hi L ps v ms V) (hk : KeptIn (SdY V S B0) V V') (hv : SvAt V' S s B0 v' ms') : SoF w S s B0 x y p g n cg room N D root lv lo hi L ps v' ms' V' :=
  ⟨hv, h.lead.kept hk (sdy_lead h.sv h.lead), h.leaf.kept hk (sdy_leaf h.sv h.leaf), psAt h.isps hk (fun p e => by cases e; exact sdy_pairs h.sv h.ty), by
    obtain ⟨cs, fr, hb⟩ := h.ty
    exact ⟨cs, fr, (hk.block g (sdy_pairs h.sv ⟨cs, fr, hb⟩)).trans hb⟩, sdy_sh h.sv h.sh h.dS hk, h.dS, sdy_trans h.kept hk, h.len⟩
theorem SoF.old {w V V' : World} {S s B0 x y p g n cg room : Nat} {N : List Nd} {D : Nat → Prop} {root : Bool} {lv : Int} {lo hi : Nat} {L : Int} {ps : Pairs} {v : Value} {ms : List Int} (h : SoF w S s B0 x y p g n cg room N D root lv lo hi L ps v ms V) (hk : KeptIn (· < V.heap.size) V V') : SoF w S s B0 x y p g n cg room N D root lv lo hi L ps v ms V' := h.go (sdy_old hk) (h.sv.old hk)

/-- A row of distinct numbers up to n. -/
theorem nodup_le : ∀ (n : Nat) (l : List Nat), l.Nodup → (∀ x ∈ l, 1 ≤ x ∧ x ≤ n) → l.length ≤ n := by
  intro n
  induction n with
  | zero =>
    intro l _ h
    cases l with
    | nil => exact Nat.le_refl _
    | cons x r => have := h x List.mem_cons_self; omega
  | succ n ih =>
    intro l hd h
    have h1 := ih (l.filter (· ≠ n + 1)) (hd.filter _) fun x hx => by
      obtain ⟨h2, h3⟩ := List.mem_filter.1 hx
      have := h x h2
      simp at h3
      omega
    have h2 : l.length ≤ (l.filter (· ≠ n + 1)).length + 1 := by
      have h3 : l.count (n + 1) ≤ 1 := List.nodup_iff_count.1 hd _
      have h4 : l.length = l.countP (fun x => decide (x ≠ n + 1)) + l.countP (fun x => decide ¬ decide (x ≠ n + 1) = true) := List.length_eq_countP_add_countP _
      have h5 : l.countP (fun x => decide ¬ decide (x ≠ n + 1) = true) = l.count (n + 1) := by
        rw [List.count_eq_countP]
        refine List.countP_congr fun x _ => ?_
        simp
      rw [← List.countP_eq_length_filter]
      omega
    omega

end Go.Proofs.Ytdbanlifneomgaa
