import Derived.Test.YtjollbaohopmjaaRc9W
/- Package reach's checkAll: what stands in its loop over the roots. -/
set_option linter.unusedVariables false
namespace Go.Proofs.Ytjollbaohopmjaa
open Go.RowKit

/-- The empty struct, as a map's element. -/
def unV (_ : Unit) : Value := .agg #[]
theorem unV_inj (a b : Unit) (h : unV a = unV b) : a = b := rfl

/-- What memo has come to keep: what it kept, and the pages of these roots. -/
def Mko (M M' : Int → Option (Option Lf9)) (G : Int → List Int) (rs : List Int) : Prop := ∀ q, (M' q).isSome = true ↔ (M q).isSome = true ∨ ∃ r ∈ rs, q ∈ G r

/-- What stands in checkAll's loop: the first j roots are looked at. -/
structure CkR (w : World) (s room x y c : Nat) (N : List Nd) (D : Nat → Prop) (M : Int → Option (Option Lf9)) (G : Int → List Int) (rs : List Int) (j c' : Nat) (M' : Int → Option (Option Lf9)) (T : Int → Option Unit) (W : World) : Prop where
  mm : IsMm W x c' N M'
  le : c' ≤ c + 511 * j
  says : Mko M M' G (rs.take j)
  met : MpAt unV y j T W
  metS : ∀ q, (T q).isSome = true ↔ q ∈ rs.take j
  sh : IsSh W s room N D
  dx : ∀ k, D k → k ≠ x
  kept : KeptIn (fun k => k < w.heap.size ∧ k ≠ x) w W
  new : w.heap.size ≤ y
  ne : y ≠ x

section
variable {w W W' : World} {s room x y c j c' : Nat} {N : List Nd} {D : Nat → Prop} {M M' : Int → Option (Option Lf9)} {G : Int → List Int} {rs : List Int} {T : Int → Option Unit}
theorem CkR.old (h : CkR w s room x y c N D M G rs j c' M' T W) (hk : KeptIn (· < W.heap.size) W W') : CkR w s room x y c N D M G rs j c' M' T W' :=
  ⟨h.mm.old hk, h.le, h.says, h.met.kept hk h.met.lt, h.metS, h.sh.old hk, h.dx, h.kept.trans (hk.mono fun k e => Nat.lt_of_lt_of_le e.1 h.kept.size), h.new, h.ne⟩

/-- A root that was looked at. -/
theorem CkR.again (h : CkR w s room x y c N D M G rs j c' M' T W) (hj : j < rs.length) (hm : rs[j] ∈ rs.take j) : CkR w s room x y c N D M G rs (j + 1) c' M' T W := by
  have e : rs.take (j + 1) = rs.take j ++ [rs[j]] := by rw [List.take_add_one, List.getElem?_eq_getElem hj]; rfl
  refine ⟨h.mm, by have := h.le; omega, fun q => ?_, h.met.mono (Nat.le_succ _), fun q => ?_, h.sh, h.dx, h.kept, h.new, h.ne⟩
  · rw [h.says q, e]
    constructor
    · rintro (h1 | ⟨r, hr, hq⟩)
      · exact .inl h1
      · exact .inr ⟨r, List.mem_append_left _ hr, hq⟩
    · rintro (h1 | ⟨r, hr, hq⟩)
      · exact .inl h1
      · rcases List.mem_append.1 hr with h2 | h2
        · exact .inr ⟨r, h2, hq⟩
        · rw [List.mem_singleton] at h2
          subst h2
          exact .inr ⟨_, hm, hq⟩
  · rw [h.metS q, e]
    constructor
    · exact fun h1 => List.mem_append_left _ h1
    · intro h1
      rcases List.mem_append.1 h1 with h2 | h2
      · exact h2
      · rw [List.mem_singleton] at h2
        subst h2
        exact hm

/-- A root that wasn't: it is met, and its tree is looked at. -/
theorem CkR.first {W2 : World} (h : CkR w s room x y c N D M G rs j c' M' T W) (hj : j < rs.length) (hT : MpAt unV y (j + 1) (mpPut T rs[j] ()) W2) (hk2 : KeptIn (· ≠ y) W W2) (hy : ¬ D y)
    (hk3 : KeptIn (fun k => k < W2.heap.size ∧ k ≠ x) W2 W') (hm : MmS W' x c' N M' (G rs[j])) (hl : (G rs[j]).length ≤ 511) : ∃ c2 M2, CkR w s room x y c N D M G rs (j + 1) c2 M2 (mpPut T rs[j] ()) W' := by
  have e : rs.take (j + 1) = rs.take j ++ [rs[j]] := by rw [List.take_add_one, List.getElem?_eq_getElem hj]; rfl
  obtain ⟨c2, M2, h1, h2, h3⟩ := hm
  have hsh2 : IsSh W2 s room N D := h.sh.kept (hk2.mono fun k hk e => hy (e ▸ hk))
  refine ⟨c2, M2, h1, by have := h.le; omega, fun q => ?_, hT.kept hk3 ⟨hT.lt, h.ne⟩, fun q => ?_, hsh2.kept (hk3.mono fun k hk => ⟨hsh2.lt k hk, h.dx k hk⟩), h.dx, ?_, h.new, h.ne⟩
  · rw [h3 q, e, Bool.or_eq_true, h.says q, decide_eq_true_eq]
    constructor
    · rintro ((h1 | ⟨r, hr, hq⟩) | hq)
      · exact .inl h1
      · exact .inr ⟨r, List.mem_append_left _ hr, hq⟩
      · exact .inr ⟨_, List.mem_append_right _ (List.mem_singleton.2 rfl), hq⟩
    · rintro (h1 | ⟨r, hr, hq⟩)
      · exact .inl (.inl h1)
      · rcases List.mem_append.1 hr with h2 | h2
        · exact .inl (.inr ⟨r, h2, hq⟩)
        · rw [List.mem_singleton] at h2
          subst h2
          exact .inr hq
  · rw [e, List.mem_append, List.mem_singleton, ← h.metS q]
    unfold mpPut
    by_cases e2 : q = rs[j]
    · rw [if_pos e2]; simp [e2]
    · rw [if_neg e2]; simp [e2]
  · refine (h.kept.trans (hk2.mono fun k hk => ?_)).trans (hk3.mono fun k hk => ⟨?_, hk.2⟩)
    · have := h.new; have := hk.1; omega
    · exact Nat.lt_of_lt_of_le hk.1 (Nat.le_trans h.kept.size hk2.size)
end

end Go.Proofs.Ytjollbaohopmjaa
