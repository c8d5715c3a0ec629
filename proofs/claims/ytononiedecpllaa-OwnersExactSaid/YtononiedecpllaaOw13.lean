/- Owners: how owners stand to each other; rows of owners that rise. Of no program. -/
import Derived.Test.YtononiedecpllaaKept
set_option linter.unusedVariables false
namespace Go.Proofs.Ytononiedecpllaa
open Go.RowKit

structure Ow where
  vol : Int
  bir : Int
  pos : Int
  deriving DecidableEq

def cmpI (x y : Int) : Int := if x < y then -1 else if y < x then 1 else 0
theorem cmpI_zero {x y : Int} : cmpI x y = 0 ↔ x = y := by unfold cmpI; split <;> (try split) <;> omega
theorem cmpI_neg {x y : Int} : cmpI x y < 0 ↔ x < y := by unfold cmpI; split <;> (try split) <;> omega
theorem cmpI_bd (x y : Int) : -1 ≤ cmpI x y ∧ cmpI x y ≤ 1 := by unfold cmpI; split <;> (try split) <;> omega
def cmpO (a b : Ow) : Int := if cmpI a.vol b.vol = 0 then (if cmpI a.bir b.bir = 0 then cmpI a.pos b.pos else cmpI a.bir b.bir) else cmpI a.vol b.vol
def ltO (a b : Ow) : Prop := a.vol < b.vol ∨ a.vol = b.vol ∧ (a.bir < b.bir ∨ a.bir = b.bir ∧ a.pos < b.pos)
instance ltO_dec : DecidableRel ltO := fun a b => by unfold ltO; exact inferInstance
theorem cmpO_neg {a b : Ow} : cmpO a b < 0 ↔ ltO a b := by
  unfold cmpO ltO
  by_cases h1 : cmpI a.vol b.vol = 0
  · rw [if_pos h1]
    have e1 := cmpI_zero.1 h1
    by_cases h2 : cmpI a.bir b.bir = 0
    · rw [if_pos h2, cmpI_neg]
      have e2 := cmpI_zero.1 h2
      omega
    · rw [if_neg h2, cmpI_neg]
      have e2 : a.bir ≠ b.bir := fun e => h2 (cmpI_zero.2 e)
      omega
  · rw [if_neg h1, cmpI_neg]
    have e1 : a.vol ≠ b.vol := fun e => h1 (cmpI_zero.2 e)
    omega
theorem cmpO_zero {a b : Ow} : cmpO a b = 0 ↔ a = b := by
  unfold cmpO
  rw [Ow.mk.injEq]
  by_cases h1 : cmpI a.vol b.vol = 0
  · rw [if_pos h1]
    have e1 := cmpI_zero.1 h1
    by_cases h2 : cmpI a.bir b.bir = 0
    · rw [if_pos h2, cmpI_zero]
      have e2 := cmpI_zero.1 h2
      exact ⟨fun e => ⟨e1, e2, e⟩, fun e => e.2.2⟩
    · rw [if_neg h2]
      exact ⟨fun e => absurd e h2, fun e => absurd (cmpI_zero.2 e.2.1) h2⟩
  · rw [if_neg h1]
    exact ⟨fun e => absurd e h1, fun e => absurd (cmpI_zero.2 e.1) h1⟩
theorem ltO_irr (a : Ow) : ¬ ltO a a := by unfold ltO; omega
theorem ltO_tr {a b c : Ow} (h : ltO a b) (k : ltO b c) : ltO a c := by unfold ltO at *; omega
theorem ltO_tot {a b : Ow} (h : ¬ ltO a b) (k : a ≠ b) : ltO b a := by
  have k' : ¬ (a.vol = b.vol ∧ a.bir = b.bir ∧ a.pos = b.pos) := fun e => k (by cases a; cases b; simp_all)
  unfold ltO at *
  omega

abbrev Srt13 (l : List Ow) : Prop := l.Pairwise ltO
theorem Srt13.nodup {l : List Ow} (h : Srt13 l) : l.Nodup := by
  refine List.Pairwise.imp (R := ltO) (fun {a b} hh => ?_) h
  intro e
  rw [e] at hh
  exact ltO_irr _ hh
theorem srt_ext {a b : List Ow} (ha : Srt13 a) (hb : Srt13 b) (h : ∀ x, x ∈ a ↔ x ∈ b) : a = b :=
  List.Perm.eq_of_pairwise (fun x y _ _ h1 h2 => absurd (ltO_tr h1 h2) (ltO_irr x)) ha hb ((List.perm_ext_iff_of_nodup ha.nodup hb.nodup).2 h)

/-- How many stand ahead of one. -/
def plO (l : List Ow) (o : Ow) : Nat := (l.takeWhile fun x => decide (ltO x o)).length
theorem plO_le (l : List Ow) (o : Ow) : plO l o ≤ l.length := (List.takeWhile_prefix _).length_le
theorem plO_cons (y : Ow) (l : List Ow) (o : Ow) : plO (y :: l) o = if ltO y o then plO l o + 1 else 0 := by
  unfold plO
  rw [List.takeWhile_cons]
  by_cases h : ltO y o
  · rw [if_pos (by simpa using h), if_pos h]; rfl
  · rw [if_neg (by simpa using h), if_neg h]; rfl
theorem plO_lt {l : List Ow} {o x : Ow} : ∀ {i : Nat}, i < plO l o → l[i]? = some x → ltO x o := by
  induction l with
  | nil => intro i _ h; simp at h
  | cons y r ih =>
    intro i hi hx
    rw [plO_cons] at hi
    split at hi
    · rename_i h
      cases i with
      | zero => simp at hx; subst hx; exact h
      | succ i => exact ih (i := i) (by omega) (by simpa using hx)
    · omega
theorem plO_is {l : List Ow} {o : Ow} : ∀ {k : Nat}, k ≤ l.length → (∀ i x, i < k → l[i]? = some x → ltO x o) → (∀ x, l[k]? = some x → ¬ ltO x o) → plO l o = k := by
  induction l with
  | nil => intro k hk _ _; simp at hk; subst hk; rfl
  | cons y r ih =>
    intro k hk h1 h2
    rw [plO_cons]
    cases k with
    | zero => rw [if_neg (h2 y (by simp))]
    | succ k =>
      rw [if_pos (h1 0 y (by omega) (by simp)), ih (k := k) (by simpa using hk) (fun i x hi hx => h1 (i + 1) x (by omega) (by simpa using hx)) (fun x hx => h2 x (by simpa using hx))]
theorem plO_ge {l : List Ow} {o x : Ow} (hs : Srt13 l) : ∀ {i : Nat}, plO l o ≤ i → l[i]? = some x → ¬ ltO x o := by
  induction l with
  | nil => intro i _ h; simp at h
  | cons y r ih =>
    intro i hi hx
    rw [plO_cons] at hi
    rw [Srt13, List.pairwise_cons] at hs
    by_cases h : ltO y o
    · rw [if_pos h] at hi
      cases i with
      | zero => omega
      | succ i => exact ih hs.2 (i := i) (by omega) (by simpa using hx)
    · cases i with
      | zero => simp at hx; subst hx; exact h
      | succ i =>
        have hm : x ∈ r := List.mem_of_getElem? (i := i) (by simpa using hx)
        exact fun h2 => h (ltO_tr (hs.1 x hm) h2)
theorem plO_mem {l : List Ow} {o : Ow} (hs : Srt13 l) : o ∈ l ↔ l[plO l o]? = some o := by
  constructor
  · intro h
    obtain ⟨i, hi, e⟩ := List.getElem_of_mem h
    have he : l[i]? = some o := by rw [List.getElem?_eq_getElem hi, e]
    have h1 : plO l o ≤ i := Nat.le_of_not_lt fun h => ltO_irr o (plO_lt h he)
    rcases Nat.lt_or_ge (plO l o) i with h2 | h2
    · exfalso
      have h3 : plO l o < l.length := by omega
      have h4 := (List.pairwise_iff_getElem.1 hs) (plO l o) i h3 hi h2
      rw [e] at h4
      exact plO_ge hs (Nat.le_refl _) (List.getElem?_eq_getElem h3) h4
    · rw [show plO l o = i by omega]; exact he
  · exact fun h => List.mem_of_getElem? h

/-- With one more, without one. -/
def insO (l : List Ow) (o : Ow) : List Ow := l.take (plO l o) ++ o :: l.drop (plO l o)
def delO (l : List Ow) (o : Ow) : List Ow := l.take (plO l o) ++ l.drop (plO l o + 1)
theorem insO_length (l : List Ow) (o : Ow) : (insO l o).length = l.length + 1 := by
  have := plO_le l o
  simp only [insO, List.length_append, List.length_cons, List.length_take, List.length_drop]; omega
theorem mem_insO {l : List Ow} {o x : Ow} : x ∈ insO l o ↔ x = o ∨ x ∈ l := by
  have e : x ∈ l ↔ x ∈ l.take (plO l o) ∨ x ∈ l.drop (plO l o) := by rw [← List.mem_append, List.take_append_drop]
  rw [e]
  unfold insO
  rw [List.mem_append, List.mem_cons]
  constructor
  · rintro (h | h | h)
    · exact .inr (.inl h)
    · exact .inl h
    · exact .inr (.inr h)
  · rintro (h | h | h)
    · exact .inr (.inl h)
    · exact .inl h
    · exact .inr (.inr h)
theorem mem_take_ltO {l : List Ow} {o x : Ow} (h : x ∈ l.take (plO l o)) : ltO x o := by
  obtain ⟨i, hi, e⟩ := List.getElem_of_mem h
  rw [List.length_take] at hi
  rw [List.getElem_take] at e
  exact plO_lt (l := l) (i := i) (by omega) (by rw [List.getElem?_eq_getElem (by omega), e])
theorem mem_drop_geO {l : List Ow} {o x : Ow} (hs : Srt13 l) (h : x ∈ l.drop (plO l o)) : ¬ ltO x o := by
  obtain ⟨i, hi, e⟩ := List.getElem_of_mem h
  rw [List.length_drop] at hi
  rw [List.getElem_drop] at e
  exact plO_ge (l := l) hs (i := plO l o + i) (by omega) (by rw [List.getElem?_eq_getElem (by omega), e])
theorem srt_insO {l : List Ow} {o : Ow} (hs : Srt13 l) (hn : o ∉ l) : Srt13 (insO l o) := by
  have h1 : Srt13 (l.take (plO l o)) := hs.sublist (List.take_sublist _ _)
  have h2 : Srt13 (l.drop (plO l o)) := hs.sublist (List.drop_sublist _ _)
  have h3 : ∀ x ∈ l.drop (plO l o), ltO o x := fun x hx => ltO_tot (mem_drop_geO hs hx) fun e => hn (e ▸ List.mem_of_mem_drop hx)
  unfold insO
  refine List.pairwise_append.2 ⟨h1, List.pairwise_cons.2 ⟨h3, h2⟩, fun x hx y hy => ?_⟩
  rcases List.mem_cons.1 hy with rfl | hy
  · exact mem_take_ltO hx
  · exact ltO_tr (mem_take_ltO hx) (h3 y hy)
theorem delO_length {l : List Ow} {o : Ow} (hs : Srt13 l) (h : o ∈ l) : (delO l o).length + 1 = l.length := by
  have h1 := (List.getElem?_eq_some_iff.1 ((plO_mem hs).1 h)).1
  simp only [delO, List.length_append, List.length_take, List.length_drop]; omega
theorem delO_split {l : List Ow} {o : Ow} (hs : Srt13 l) (h : o ∈ l) : l = l.take (plO l o) ++ o :: l.drop (plO l o + 1) := by
  obtain ⟨h1, h2⟩ := List.getElem?_eq_some_iff.1 ((plO_mem hs).1 h)
  conv => lhs; rw [← List.take_append_drop (plO l o) l, List.drop_eq_getElem_cons h1, h2]
theorem srt_delO {l : List Ow} {o : Ow} (hs : Srt13 l) : Srt13 (delO l o) := by
  refine hs.sublist ?_
  unfold delO
  conv => rhs; rw [← List.take_append_drop (plO l o) l]
  exact List.Sublist.append_left (List.drop_sublist_drop_left l (by omega)) _
theorem mem_delO {l : List Ow} {o x : Ow} (hs : Srt13 l) (h : o ∈ l) : x ∈ delO l o ↔ x ∈ l ∧ x ≠ o := by
  have hd := delO_split hs h
  have hnd := hs.nodup
  constructor
  · intro hx
    refine ⟨?_, ?_⟩
    · rw [hd]
      unfold delO at hx
      rcases List.mem_append.1 hx with hx | hx
      · exact List.mem_append.2 (.inl hx)
      · exact List.mem_append.2 (.inr (List.mem_cons_of_mem _ hx))
    · rintro rfl
      rw [hd] at hnd
      rw [List.nodup_append] at hnd
      unfold delO at hx
      rcases List.mem_append.1 hx with hx | hx
      · exact hnd.2.2 x hx x (List.mem_cons_self ..) rfl
      · exact (List.nodup_cons.1 hnd.2.1).1 hx
  · rintro ⟨hx, hne⟩
    rw [hd] at hx
    unfold delO
    rcases List.mem_append.1 hx with hx | hx
    · exact List.mem_append.2 (.inl hx)
    · rcases List.mem_cons.1 hx with rfl | hx
      · exact absurd rfl hne
      · exact List.mem_append.2 (.inr hx)

/-- Whose a chunk is, changed for one chunk. -/
def setF {α : Type} (f : Int → α) (c : Int) (l : α) : Int → α := fun d => if d = c then l else f d
theorem setF_same {α : Type} (f : Int → α) (c : Int) (l : α) : setF f c l c = l := if_pos rfl
theorem setF_other {α : Type} (f : Int → α) {c d : Int} (l : α) (h : d ≠ c) : setF f c l d = f d := if_neg h
theorem setF_self {α : Type} (f : Int → α) (c : Int) : setF f c (f c) = f := by
  funext d
  unfold setF
  split
  · rename_i h; rw [h]
  · rfl

end Go.Proofs.Ytononiedecpllaa
