import Derived.Test.YtlnlgapjlekehaaVi11K
/- VolsApart of layer 11: the volumes that there are: the mathematics, and the array that holds them. -/
set_option linter.unusedVariables false
namespace Go.Proofs.Ytlnlgapjlekehaa
open Go.RowKit

/-- The volume of a number. -/
def atV (A : List Vol) (i : Nat) : Vol := A.getD i vol0
/-- The volumes that there are, of numbers up to m. -/
def pres (A : List Vol) : Nat → List Vol
  | 0 => []
  | m + 1 => pres A m ++ (if (atV A (m + 1)).id = ((m + 1 : Nat) : Int) then [atV A (m + 1)] else [])
def pairOf (v : Vol) : Nat × Nat := (keyV v, valV v)
def prs (A : List Vol) : Pairs := (pres A 16).map pairOf
/-- All of them are good. -/
def OkA (A : List Vol) : Prop := A.length = 17 ∧ ∀ i, 1 ≤ i → i ≤ 16 → (atV A i).id = (i : Int) → GoodV (atV A i)

theorem pres_mem {A : List Vol} : ∀ {m : Nat} {v : Vol}, v ∈ pres A m ↔ ∃ i, 1 ≤ i ∧ i ≤ m ∧ (atV A i).id = (i : Int) ∧ v = atV A i := by
  intro m
  induction m with
  | zero =>
    intro v
    simp only [pres, List.not_mem_nil, false_iff]
    rintro ⟨i, h1, h2, _⟩
    omega
  | succ m ih =>
    intro v
    rw [pres, List.mem_append, ih]
    constructor
    · rintro (⟨i, h1, h2, h3, h4⟩ | h)
      · exact ⟨i, h1, by omega, h3, h4⟩
      · split at h
        · rename_i hid
          exact ⟨m + 1, by omega, Nat.le_refl _, hid, List.mem_singleton.1 h⟩
        · cases h
    · rintro ⟨i, h1, h2, h3, h4⟩
      rcases Nat.lt_or_ge i (m + 1) with h | h
      · exact .inl ⟨i, h1, by omega, h3, h4⟩
      · obtain rfl : i = m + 1 := by omega
        refine .inr ?_
        rw [if_pos h3, h4]
        exact List.mem_cons_self
theorem pres_ids {A : List Vol} (m : Nat) : (pres A m).Pairwise fun a b => a.id < b.id := by
  induction m with
  | zero => exact .nil
  | succ m ih =>
    rw [pres, List.pairwise_append]
    refine ⟨ih, ?_, fun a ha b hb => ?_⟩
    · split
      · exact List.pairwise_singleton _ _
      · exact .nil
    · split at hb
      · rename_i hid
        rw [List.mem_singleton.1 hb, hid]
        obtain ⟨i, h1, h2, h3, rfl⟩ := pres_mem.1 ha
        omega
      · cases hb
theorem pres_more (A : List Vol) (m k : Nat) : ∃ r, pres A (m + k) = pres A m ++ r := by
  induction k with
  | zero => exact ⟨[], by simp⟩
  | succ k ih =>
    obtain ⟨r, hr⟩ := ih
    exact ⟨r ++ (if (atV A (m + k + 1)).id = ((m + k + 1 : Nat) : Int) then [atV A (m + k + 1)] else []), by
      rw [show m + (k + 1) = m + k + 1 from rfl, pres, hr, List.append_assoc]⟩
theorem pres_len (A : List Vol) (m : Nat) : (pres A m).length ≤ m := by
  induction m with
  | zero => exact Nat.le_refl _
  | succ m ih =>
    rw [pres, List.length_append]
    split <;> simp <;> omega
theorem pres_good {A : List Vol} (h : OkA A) {v : Vol} (hv : v ∈ pres A 16) : GoodV v := by
  obtain ⟨i, h1, h2, h3, rfl⟩ := pres_mem.1 hv
  exact h.2 i h1 h2 h3
theorem good_key {v : Vol} (h : GoodV v) : ((keyV v : Nat) : Int) = 4294967296 + v.id := (good_keys h).2.2.2.2.2
theorem prs_srt {A : List Vol} (h : OkA A) : Srt (prs A) := by
  unfold prs
  show List.Pairwise _ _
  rw [List.pairwise_map]
  refine (pres_ids 16).imp_of_mem fun {a b} ha hb hab => ?_
  have h1 := good_key (pres_good h ha)
  have h2 := good_key (pres_good h hb)
  show keyV a < keyV b
  omega
theorem volsOf_map {l : List Vol} (h : ∀ v ∈ l, GoodV v) : volsOf (l.map pairOf) = some l := by
  induction l with
  | nil => rfl
  | cons v r ih =>
    rw [List.map_cons, volsOf, ih fun u hu => h u (List.mem_cons_of_mem _ hu)]
    have := readVol_pair (h v List.mem_cons_self)
    unfold pairOf
    rw [this]
    rfl
theorem vr_prs {A : List Vol} (h : OkA A) : vr (prs A) = prs A := by
  unfold vr
  refine rng_all fun p hp => ?_
  obtain ⟨v, hv, rfl⟩ := List.mem_map.1 hp
  have := good_keys (pres_good h hv)
  show 4294967296 ≤ keyV v ∧ keyV v ≤ 8589934591
  omega
theorem vols_prs {A : List Vol} (h : OkA A) : volsOf (vr (prs A)) = some (pres A 16) := by
  rw [vr_prs h]
  exact volsOf_map fun v hv => pres_good h hv

theorem srt_same : ∀ {a b : Pairs}, Srt a → Srt b → (∀ p, p ∈ a ↔ p ∈ b) → a = b := by
  intro a
  induction a with
  | nil =>
    intro b _ _ h
    cases b with
    | nil => rfl
    | cons q r => exact absurd ((h q).2 List.mem_cons_self) (by simp)
  | cons p r ih =>
    intro b ha hb h
    cases b with
    | nil => exact absurd ((h p).1 List.mem_cons_self) (by simp)
    | cons q s =>
      obtain ⟨a1, a2⟩ := List.pairwise_cons.1 ha
      obtain ⟨b1, b2⟩ := List.pairwise_cons.1 hb
      have e : p = q := by
        rcases List.mem_cons.1 ((h p).1 List.mem_cons_self) with e | e
        · exact e
        · rcases List.mem_cons.1 ((h q).2 List.mem_cons_self) with e2 | e2
          · exact e2.symm
          · have h1 := b1 p e
            have h2 := a1 q e2
            omega
      subst e
      congr 1
      refine ih a2 b2 fun x => ?_
      have hx := h x
      rw [List.mem_cons, List.mem_cons] at hx
      constructor
      · intro h1
        rcases hx.1 (.inr h1) with e | e
        · have := a1 x h1
          rw [e] at this
          omega
        · exact e
      · intro h1
        rcases hx.2 (.inr h1) with e | e
        · have := b1 x h1
          rw [e] at this
          omega
        · exact e
theorem chg_mem {xs : Pairs} {k : Nat} {qs : Pairs} {p : Nat × Nat} : p ∈ chg xs k qs ↔ p ∈ xs ∨ (p ∈ qs ∧ p.1 ≠ k) := by
  unfold chg
  rw [List.mem_append, List.mem_append, List.mem_filter, List.mem_filter]
  simp only [decide_eq_true_eq]
  constructor
  · rintro ((⟨h1, h2⟩ | h) | ⟨h1, h2⟩)
    · exact .inr ⟨h1, by omega⟩
    · exact .inl h
    · exact .inr ⟨h1, by omega⟩
  · rintro (h | ⟨h1, h2⟩)
    · exact .inl (.inr h)
    · rcases Nat.lt_or_ge p.1 k with h | h
      · exact .inl (.inl ⟨h1, h⟩)
      · exact .inr ⟨h1, by omega⟩

theorem atV_set {A : List Vol} {i j : Nat} {v : Vol} (hi : i < A.length) : atV (A.set i v) j = if j = i then v else atV A j := by
  unfold atV
  rw [List.getD_eq_getElem?_getD, List.getD_eq_getElem?_getD, List.getElem?_set]
  by_cases h : i = j
  · subst h
    simp [hi]
  · rw [if_neg h, if_neg (fun e => h e.symm)]
theorem OkA.set {A : List Vol} (h : OkA A) {i : Nat} {v : Vol} (hi : i ≤ 16) (hv : v.id = (i : Int) → GoodV v) : OkA (A.set i v) := by
  refine ⟨by rw [List.length_set]; exact h.1, fun j h1 h2 h3 => ?_⟩
  rw [atV_set (by rw [h.1]; omega)] at h3 ⊢
  split at h3
  · rename_i e
    subst e
    rw [if_pos rfl]
    exact hv h3
  · rename_i e
    rw [if_neg e]
    exact h.2 j h1 h2 h3

theorem prs_mem {A : List Vol} {p : Nat × Nat} : p ∈ prs A ↔ ∃ i, 1 ≤ i ∧ i ≤ 16 ∧ (atV A i).id = (i : Int) ∧ p = pairOf (atV A i) := by
  unfold prs
  rw [List.mem_map]
  constructor
  · rintro ⟨v, hv, rfl⟩
    obtain ⟨i, h1, h2, h3, rfl⟩ := pres_mem.1 hv
    exact ⟨i, h1, h2, h3, rfl⟩
  · rintro ⟨i, h1, h2, h3, rfl⟩
    exact ⟨_, pres_mem.2 ⟨i, h1, h2, h3, rfl⟩, rfl⟩
/-- A volume is put. -/
theorem prs_put {A : List Vol} (h : OkA A) {v : Vol} (hg : GoodV v) {i : Nat} (hi : v.id = (i : Int)) (h1 : 1 ≤ i) (h2 : i ≤ 16) : chg [(keyV v, valV v)] (keyV v) (prs A) = prs (A.set i v) := by
  have hok : OkA (A.set i v) := h.set h2 fun _ => hg
  refine srt_same (srt_chg (prs_srt h) (List.pairwise_singleton _ _) (fun p hp => by rw [List.mem_singleton.1 hp])) (prs_srt hok) fun p => ?_
  have hkv := good_key hg
  rw [chg_mem, prs_mem, prs_mem, List.mem_singleton]
  constructor
  · rintro (rfl | ⟨⟨j, j1, j2, j3, rfl⟩, hne⟩)
    · exact ⟨i, h1, h2, by rw [atV_set (by rw [h.1]; omega), if_pos rfl]; exact hi, by rw [atV_set (by rw [h.1]; omega), if_pos rfl]; rfl⟩
    · have hji : j ≠ i := by
        rintro rfl
        refine hne ?_
        have := good_key (h.2 j j1 j2 j3)
        show keyV (atV A j) = keyV v
        omega
      refine ⟨j, j1, j2, ?_, ?_⟩ <;> rw [atV_set (by rw [h.1]; omega), if_neg hji]
      exact j3
  · rintro ⟨j, j1, j2, j3, rfl⟩
    rw [atV_set (by rw [h.1]; omega)] at j3 ⊢
    by_cases hji : j = i
    · rw [if_pos hji]
      exact .inl rfl
    · rw [if_neg hji] at j3 ⊢
      refine .inr ⟨⟨j, j1, j2, j3, rfl⟩, fun e => hji ?_⟩
      have := good_key (h.2 j j1 j2 j3)
      change keyV (atV A j) = keyV v at e
      omega
/-- A volume is dropped. -/
theorem prs_drop {A : List Vol} (h : OkA A) {i : Nat} (h1 : 1 ≤ i) (h2 : i ≤ 16) : chg [] (4294967296 + i) (prs A) = prs (A.set i vol0) := by
  have hok : OkA (A.set i vol0) := h.set h2 fun e => by
    have : (0 : Int) = (i : Int) := e
    omega
  refine srt_same (by rw [chg_drop _ (prs_srt h)]; exact (prs_srt h).filter _) (prs_srt hok) fun p => ?_
  rw [chg_mem, prs_mem, prs_mem]
  constructor
  · rintro (h3 | ⟨⟨j, j1, j2, j3, rfl⟩, hne⟩)
    · cases h3
    · have hji : j ≠ i := by
        rintro rfl
        refine hne ?_
        have := good_key (h.2 j j1 j2 j3)
        show keyV (atV A j) = 4294967296 + j
        omega
      refine ⟨j, j1, j2, ?_, ?_⟩ <;> rw [atV_set (by rw [h.1]; omega), if_neg hji]
      exact j3
  · rintro ⟨j, j1, j2, j3, rfl⟩
    rw [atV_set (by rw [h.1]; omega)] at j3 ⊢
    by_cases hji : j = i
    · rw [if_pos hji] at j3
      have : (0 : Int) = (j : Int) := j3
      omega
    · rw [if_neg hji] at j3 ⊢
      refine .inr ⟨⟨j, j1, j2, j3, rfl⟩, fun e => hji ?_⟩
      have := good_key (h.2 j j1 j2 j3)
      change keyV (atV A j) = 4294967296 + i at e
      omega
theorem prs_has {A : List Vol} (h : OkA A) {i : Nat} (h1 : 1 ≤ i) (h2 : i ≤ 16) : (∃ v, (4294967296 + i, v) ∈ prs A) ↔ (atV A i).id = (i : Int) := by
  constructor
  · rintro ⟨v, hv⟩
    obtain ⟨j, j1, j2, j3, e⟩ := prs_mem.1 hv
    have := good_key (h.2 j j1 j2 j3)
    have e1 : 4294967296 + i = keyV (atV A j) := congrArg Prod.fst e
    obtain rfl : j = i := by omega
    exact j3
  · intro h3
    have := good_key (h.2 i h1 h2 h3)
    refine ⟨valV (atV A i), prs_mem.2 ⟨i, h1, h2, h3, ?_⟩⟩
    show (4294967296 + i, valV (atV A i)) = (keyV (atV A i), valV (atV A i))
    rw [show 4294967296 + i = keyV (atV A i) by omega]

end Go.Proofs.Ytlnlgapjlekehaa
