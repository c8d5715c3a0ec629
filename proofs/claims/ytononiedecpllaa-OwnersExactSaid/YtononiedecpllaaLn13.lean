/- The document's rows of chunks and owners: the mathematics. Of no program. -/
import Derived.Test.YtononiedecpllaaWf13
import Derived.Test.YtononiedecpllaaOe13
set_option linter.unusedVariables false
namespace Go.Proofs.Ytononiedecpllaa
open Go.RowKit

def ltN (a b : On) : Prop := a.ch < b.ch ∨ a.ch = b.ch ∧ ltO a.ow b.ow
instance ltN_dec : DecidableRel ltN := fun a b => by unfold ltN; exact inferInstance
theorem ltN_irr (a : On) : ¬ ltN a a := by
  rintro (h | ⟨_, h⟩)
  · omega
  · exact ltO_irr _ h
theorem ltN_tr {a b c : On} (h : ltN a b) (k : ltN b c) : ltN a c := by
  rcases h with h | ⟨h1, h2⟩
  · rcases k with k | ⟨k1, k2⟩
    · exact .inl (by omega)
    · exact .inl (by omega)
  · rcases k with k | ⟨k1, k2⟩
    · exact .inl (by omega)
    · exact .inr ⟨by omega, ltO_tr h2 k2⟩
theorem ltN_tot {a b : On} (h : ¬ ltN a b) (k : a ≠ b) : ltN b a := by
  unfold ltN at *
  by_cases e : a.ch = b.ch
  · by_cases e2 : a.ow = b.ow
    · exact absurd (by cases a; cases b; simp_all) k
    · exact .inr ⟨e.symm, ltO_tot (fun h2 => h (.inr ⟨e, h2⟩)) e2⟩
  · exact .inl (by omega)
abbrev SrtN (l : List On) : Prop := l.Pairwise ltN

def ofN (l : List On) (c : Int) : List Ow := (l.filter fun x => x.ch == c).map (·.ow)
theorem mem_ofN {l : List On} {c : Int} {o : Ow} : o ∈ ofN l c ↔ (⟨c, o⟩ : On) ∈ l := by
  unfold ofN
  rw [List.mem_map]
  constructor
  · rintro ⟨x, hx, rfl⟩
    obtain ⟨h1, h2⟩ := List.mem_filter.1 hx
    have : x.ch = c := by simpa using h2
    rw [← this]
    exact h1
  · intro h
    exact ⟨⟨c, o⟩, List.mem_filter.2 ⟨h, by simp⟩, rfl⟩
theorem srt_ofN {l : List On} (h : SrtN l) (c : Int) : Srt13 (ofN l c) := by
  unfold ofN Srt13
  rw [List.pairwise_map]
  refine (h.sublist List.filter_sublist).imp_of_mem fun {a b} ha hb hab => ?_
  have h1 : a.ch = c := by simpa using (List.mem_filter.1 ha).2
  have h2 : b.ch = c := by simpa using (List.mem_filter.1 hb).2
  rcases hab with h3 | h3
  · omega
  · exact h3.2
theorem ofN_length (l : List On) (c : Int) : (ofN l c).length ≤ l.length := by
  unfold ofN
  rw [List.length_map]
  exact List.length_filter_le _ _
theorem ofN_append (a b : List On) (c : Int) : ofN (a ++ b) c = ofN a c ++ ofN b c := by
  unfold ofN
  rw [List.filter_append, List.map_append]
theorem ofN_take {l : List On} {i : Nat} {x : On} (h : l[i]? = some x) (c : Int) : ofN (l.take (i + 1)) c = ofN (l.take i) c ++ (if x.ch = c then [x.ow] else []) := by
  obtain ⟨h1, h2⟩ := List.getElem?_eq_some_iff.1 h
  rw [List.take_succ_eq_append_getElem h1, h2, ofN_append]
  congr 1
  unfold ofN
  by_cases e : x.ch = c
  · rw [if_pos e]; simp [e]
  · rw [if_neg e]; simp [e]

/-- Where one is put. -/
def plN (l : List On) (x : On) : Nat := (l.takeWhile fun y => !decide (ltN x y)).length
theorem plN_le (l : List On) (x : On) : plN l x ≤ l.length := (List.takeWhile_prefix _).length_le
theorem plN_cons (y : On) (l : List On) (x : On) : plN (y :: l) x = if ltN x y then 0 else plN l x + 1 := by
  unfold plN
  rw [List.takeWhile_cons]
  by_cases h : ltN x y
  · rw [if_neg (by simpa using h), if_pos h]; rfl
  · rw [if_pos (by simpa using h), if_neg h]; rfl
theorem plN_lt {l : List On} {x y : On} : ∀ {i : Nat}, i < plN l x → l[i]? = some y → ¬ ltN x y := by
  induction l with
  | nil => intro i _ h; simp at h
  | cons z r ih =>
    intro i hi hy
    rw [plN_cons] at hi
    split at hi
    · omega
    · rename_i h
      cases i with
      | zero => simp at hy; subst hy; exact h
      | succ i => exact ih (i := i) (by omega) (by simpa using hy)
theorem plN_at {l : List On} {x y : On} (h : l[plN l x]? = some y) : ltN x y := by
  induction l with
  | nil => simp at h
  | cons z r ih =>
    rw [plN_cons] at h
    split at h
    · rename_i h1
      simp at h
      subst h
      exact h1
    · exact ih (by simpa using h)
def insN (l : List On) (x : On) : List On := l.take (plN l x) ++ x :: l.drop (plN l x)
theorem insN_length (l : List On) (x : On) : (insN l x).length = l.length + 1 := by
  have := plN_le l x
  simp only [insN, List.length_append, List.length_cons, List.length_take, List.length_drop]; omega
theorem mem_insN {l : List On} {o x : On} : x ∈ insN l o ↔ x = o ∨ x ∈ l := by
  have e : x ∈ l ↔ x ∈ l.take (plN l o) ∨ x ∈ l.drop (plN l o) := by rw [← List.mem_append, List.take_append_drop]
  rw [e]
  unfold insN
  rw [List.mem_append, List.mem_cons]
  constructor
  · rintro (h | h | h)
    · exact .inr (.inl h)
    · exact .inl h
    · exact .inr (.inr h)
  · rintro (h | h | h)
    · exact .inr (.inl h)
    · exact .inl h
    · exact .inr (.inr h)
theorem srt_insN {l : List On} {x : On} (hs : SrtN l) (hn : x ∉ l) : SrtN (insN l x) := by
  have h1 : SrtN (l.take (plN l x)) := hs.sublist (List.take_sublist _ _)
  have h2 : SrtN (l.drop (plN l x)) := hs.sublist (List.drop_sublist _ _)
  have h3 : ∀ y ∈ l.take (plN l x), ltN y x := fun y hy => by
    obtain ⟨i, hi, e⟩ := List.getElem_of_mem hy
    rw [List.length_take] at hi
    rw [List.getElem_take] at e
    exact ltN_tot (plN_lt (l := l) (i := i) (by omega) (by rw [List.getElem?_eq_getElem (by omega), e])) fun e2 => hn (e2 ▸ List.mem_of_mem_take hy)
  have h4 : ∀ y ∈ l.drop (plN l x), ltN x y := fun y hy => by
    rcases Nat.lt_or_ge (plN l x) l.length with hl | hl
    · have h5 := plN_at (List.getElem?_eq_getElem hl)
      rw [List.drop_eq_getElem_cons hl] at hy
      rcases List.mem_cons.1 hy with rfl | hy
      · exact h5
      · have h6 := h2
        rw [List.drop_eq_getElem_cons hl] at h6
        exact ltN_tr h5 ((List.pairwise_cons.1 h6).1 y hy)
    · rw [List.drop_of_length_le hl] at hy; cases hy
  unfold insN
  refine List.pairwise_append.2 ⟨h1, List.pairwise_cons.2 ⟨h4, h2⟩, fun y hy z hz => ?_⟩
  rcases List.mem_cons.1 hz with rfl | hz
  · exact h3 y hy
  · exact ltN_tr (h3 y hy) (h4 z hz)
theorem ofN_ins {l : List On} {c : Int} {o : Ow} (hs : SrtN l) (hn : (⟨c, o⟩ : On) ∉ l) (d : Int) : ofN (insN l ⟨c, o⟩) d = setF (ofN l) c (insO (ofN l c) o) d := by
  have hs2 := srt_insN hs hn
  by_cases e : d = c
  · subst e
    rw [setF_same]
    refine srt_ext (srt_ofN hs2 d) (srt_insO (srt_ofN hs d) (fun h => hn (mem_ofN.1 h))) fun x => ?_
    rw [mem_ofN, mem_insN, mem_insO, mem_ofN, On.mk.injEq]
    simp
  · rw [setF_other _ _ e]
    refine srt_ext (srt_ofN hs2 d) (srt_ofN hs d) fun x => ?_
    rw [mem_ofN, mem_insN, mem_ofN, On.mk.injEq]
    constructor
    · rintro (h | h)
      · exact absurd h.1 e
      · exact h
    · exact .inr

/-- What the loop of the document's Add has made behind i rounds. -/
def outN (l : List On) (x : On) (i : Nat) : List On := if plN l x < i then l.take (plN l x) ++ x :: (l.take i).drop (plN l x) else l.take i
theorem outN_zero (l : List On) (x : On) : outN l x 0 = [] := by unfold outN; rw [if_neg (by omega)]; rfl
theorem outN_length (l : List On) (x : On) (i : Nat) : (outN l x i).length ≤ i + 1 := by
  unfold outN
  split
  · simp only [List.length_append, List.length_cons, List.length_take, List.length_drop]; omega
  · rw [List.length_take]; omega
theorem outN_new {l : List On} {x y : On} {i : Nat} (hi : i = plN l x) (hy : l[i]? = some y) : outN l x (i + 1) = (outN l x i ++ [x]) ++ [y] := by
  subst hi
  obtain ⟨h1, h2⟩ := List.getElem?_eq_some_iff.1 hy
  have e : (l.take (plN l x + 1)).drop (plN l x) = [y] := by
    rw [List.take_succ_eq_append_getElem h1, h2, List.drop_append_of_le_length (by rw [List.length_take]; omega), List.drop_of_length_le (by rw [List.length_take]; omega)]
    rfl
  unfold outN
  rw [if_pos (by omega), if_neg (by omega), e]
  simp
theorem outN_old {l : List On} {x y : On} {i : Nat} (hi : i ≠ plN l x) (hy : l[i]? = some y) : outN l x (i + 1) = outN l x i ++ [y] := by
  obtain ⟨h1, h2⟩ := List.getElem?_eq_some_iff.1 hy
  have e : l.take (i + 1) = l.take i ++ [y] := by rw [List.take_succ_eq_append_getElem h1, h2]
  unfold outN
  by_cases h : plN l x < i
  · rw [if_pos (by omega), if_pos h, e, List.drop_append_of_le_length (by rw [List.length_take]; omega)]
    simp
  · rw [if_neg (by omega), if_neg h, e]
theorem outN_end (l : List On) (x : On) : insN l x = if plN l x < l.length then outN l x l.length else outN l x l.length ++ [x] := by
  unfold outN insN
  split
  · rw [List.take_length]
  · have := plN_le l x
    have e : plN l x = l.length := by omega
    rw [e, List.take_length, List.drop_length]
theorem less_at {l : List On} {x y : On} {i : Nat} (hi : i ≤ plN l x) (hy : l[i]? = some y) : decide (ltN x y) = decide (i = plN l x) := decide_eq_decide.2 (by
  constructor
  · intro h
    rcases Nat.lt_or_ge i (plN l x) with h1 | h1
    · exact absurd h (plN_lt h1 hy)
    · omega
  · rintro rfl
    exact plN_at hy)

/-- Without one. -/
def remN (l : List On) (x : On) : List On := l.filter fun y => !decide (y = x)
theorem remN_take {l : List On} {x y : On} {i : Nat} (hy : l[i]? = some y) : remN (l.take (i + 1)) x = remN (l.take i) x ++ (if y = x then [] else [y]) := by
  obtain ⟨h1, h2⟩ := List.getElem?_eq_some_iff.1 hy
  rw [List.take_succ_eq_append_getElem h1, h2]
  unfold remN
  rw [List.filter_append]
  congr 1
  by_cases e : y = x
  · rw [if_pos e]; simp [e]
  · rw [if_neg e]; simp [e]
theorem remN_length (l : List On) (x : On) : (remN l x).length ≤ l.length := List.length_filter_le _ _
theorem srt_remN {l : List On} (hs : SrtN l) (x : On) : SrtN (remN l x) := hs.sublist List.filter_sublist
theorem mem_remN {l : List On} {x y : On} : y ∈ remN l x ↔ y ∈ l ∧ y ≠ x := by
  unfold remN
  rw [List.mem_filter]
  simp
theorem ofN_rem {l : List On} {c : Int} {o : Ow} (hs : SrtN l) (hn : (⟨c, o⟩ : On) ∈ l) (d : Int) : ofN (remN l ⟨c, o⟩) d = setF (ofN l) c (delO (ofN l c) o) d := by
  have hs2 := srt_remN hs (⟨c, o⟩ : On)
  by_cases e : d = c
  · subst e
    rw [setF_same]
    refine srt_ext (srt_ofN hs2 d) (srt_delO (srt_ofN hs d)) fun x => ?_
    rw [mem_ofN, mem_remN, mem_delO (srt_ofN hs d) (mem_ofN.2 hn), mem_ofN, ne_eq, On.mk.injEq]
    simp
  · rw [setF_other _ _ e]
    refine srt_ext (srt_ofN hs2 d) (srt_ofN hs d) fun x => ?_
    rw [mem_ofN, mem_remN, mem_ofN, ne_eq, On.mk.injEq]
    constructor
    · exact fun h => h.1
    · exact fun h => ⟨h, fun h2 => e h2.1⟩

/-- The chunks of a row, rising. -/
def chN (l : List On) : List Int := upTo 1024 fun c => decide (∃ x ∈ l, x.ch = c)
theorem chN_mem {l : List On} {c : Int} : c ∈ chN l ↔ 0 ≤ c ∧ c < 1024 ∧ ∃ x ∈ l, x.ch = c := by
  unfold chN
  rw [mem_upTo, decide_eq_true_eq]
  exact Iff.rfl
theorem chN_srt (l : List On) : (chN l).Pairwise (· < ·) := upTo_sorted _ _
theorem srtI_ext {a b : List Int} (ha : a.Pairwise (· < ·)) (hb : b.Pairwise (· < ·)) (h : ∀ x, x ∈ a ↔ x ∈ b) : a = b :=
  sorted_eq9 (ha.imp fun h => Int.le_of_lt h) (hb.imp fun h => Int.le_of_lt h) (ha.imp fun {a b} h e => by omega) (hb.imp fun {a b} h e => by omega) h
theorem keysO_chN {f : Int → List Ow} {l : List On} (h : ∀ c, f c = ofN l c) : keysO f = chN l :=
  srtI_ext (upTo_sorted _ _) (chN_srt l) fun c => by
    unfold keysO
    rw [mem_upTo, chN_mem, decide_eq_true_eq, h c]
    refine and_congr Iff.rfl (and_congr Iff.rfl ?_)
    constructor
    · intro h0
      obtain ⟨o, ho⟩ := List.exists_mem_of_ne_nil _ h0
      exact ⟨⟨c, o⟩, mem_ofN.1 ho, rfl⟩
    · rintro ⟨x, hx, rfl⟩ h0
      have : x.ow ∈ ofN l x.ch := mem_ofN.2 hx
      rw [h0] at this
      cases this
theorem srt_ch {l : List On} (hs : SrtN l) {i j : Nat} {x y : On} (hij : i ≤ j) (hx : l[i]? = some x) (hy : l[j]? = some y) : x.ch ≤ y.ch := by
  rcases Nat.lt_or_ge i j with h | h
  · obtain ⟨h1, e1⟩ := List.getElem?_eq_some_iff.1 hx
    obtain ⟨h2, e2⟩ := List.getElem?_eq_some_iff.1 hy
    have := (List.pairwise_iff_getElem.1 hs) i j h1 h2 h
    rw [e1, e2] at this
    rcases this with h3 | h3
    · omega
    · omega
  · obtain rfl : i = j := by omega
    rw [hx] at hy
    cases hy
    omega
theorem mem_take_at {l : List On} {i : Nat} {x : On} (h : x ∈ l.take i) : ∃ j, j < i ∧ l[j]? = some x := by
  obtain ⟨j, hj, e⟩ := List.getElem_of_mem h
  rw [List.length_take] at hj
  rw [List.getElem_take] at e
  exact ⟨j, by omega, by rw [List.getElem?_eq_getElem (by omega), e]⟩
/-- A round of the last loop: the chunk was there already, or is the next one. -/
theorem chN_same {l : List On} (hs : SrtN l) {i : Nat} {x y : On} (hx : l[i]? = some x) (hy : l[i + 1]? = some y) (he : x.ch = y.ch) : chN (l.take (i + 1 + 1)) = chN (l.take (i + 1)) :=
  srtI_ext (chN_srt _) (chN_srt _) fun c => by
    rw [chN_mem, chN_mem]
    refine and_congr Iff.rfl (and_congr Iff.rfl ?_)
    obtain ⟨h1, e1⟩ := List.getElem?_eq_some_iff.1 hy
    rw [List.take_succ_eq_append_getElem h1, e1]
    constructor
    · rintro ⟨z, hz, e⟩
      rcases List.mem_append.1 hz with hz | hz
      · exact ⟨z, hz, e⟩
      · rw [List.mem_singleton] at hz
        refine ⟨x, ?_, by rw [he, ← hz, e]⟩
        exact List.mem_of_getElem? (i := i) (by rw [List.getElem?_take_of_lt (by omega)]; exact hx)
    · rintro ⟨z, hz, e⟩
      exact ⟨z, List.mem_append.2 (.inl hz), e⟩
theorem chN_next {l : List On} (hs : SrtN l) (hr : ∀ x ∈ l, 0 ≤ x.ch ∧ x.ch < 1024) {i : Nat} {y : On} (hy : l[i]? = some y) (hn : ∀ x, i ≠ 0 → l[i - 1]? = some x → x.ch ≠ y.ch) :
    chN (l.take (i + 1)) = chN (l.take i) ++ [y.ch] := by
  have hlt : ∀ z ∈ l.take i, z.ch < y.ch := fun z hz => by
    obtain ⟨j, hj, e⟩ := mem_take_at hz
    obtain ⟨h1, e1⟩ := List.getElem?_eq_some_iff.1 hy
    have hp : l[i - 1]? = some l[i - 1] := List.getElem?_eq_getElem (by omega)
    have h2 := srt_ch hs (by omega : j ≤ i - 1) e hp
    have h3 := srt_ch hs (by omega : i - 1 ≤ i) hp hy
    have h4 := hn _ (by omega) hp
    omega
  refine srtI_ext (chN_srt _) ?_ fun c => ?_
  · refine List.pairwise_append.2 ⟨chN_srt _, by simp, fun a ha b hb => ?_⟩
    rw [List.mem_singleton] at hb
    obtain ⟨_, _, z, hz, e⟩ := chN_mem.1 ha
    have := hlt z hz
    omega
  · obtain ⟨h1, e1⟩ := List.getElem?_eq_some_iff.1 hy
    rw [chN_mem, List.mem_append, List.mem_singleton, chN_mem, List.take_succ_eq_append_getElem h1, e1]
    constructor
    · rintro ⟨a1, a2, z, hz, e⟩
      rcases List.mem_append.1 hz with hz | hz
      · exact .inl ⟨a1, a2, z, hz, e⟩
      · rw [List.mem_singleton] at hz
        exact .inr (by rw [← e, hz])
    · rintro (⟨a1, a2, z, hz, e⟩ | e)
      · exact ⟨a1, a2, z, List.mem_append.2 (.inl hz), e⟩
      · have := hr y (List.mem_of_getElem? hy)
        exact ⟨by omega, by omega, y, List.mem_append.2 (.inr (by simp)), e.symm⟩
theorem chN_prefix {l : List On} (hs : SrtN l) (i : Nat) : ∃ r, chN l = chN (l.take i) ++ r := by
  refine ⟨upTo 1024 fun c => decide ((∃ x ∈ l, x.ch = c) ∧ ¬ ∃ x ∈ l.take i, x.ch = c), srtI_ext (chN_srt _) (List.pairwise_append.2 ⟨chN_srt _, upTo_sorted _ _, fun a ha b hb => ?_⟩) fun c => ?_⟩
  · obtain ⟨_, _, z, hz, e⟩ := chN_mem.1 ha
    rw [mem_upTo, decide_eq_true_eq] at hb
    obtain ⟨_, _, ⟨y, hy, e2⟩, hno⟩ := hb
    obtain ⟨j, hj, ej⟩ := mem_take_at hz
    obtain ⟨k, hk, ek⟩ := List.getElem_of_mem hy
    have hki : i ≤ k := Nat.le_of_not_lt fun h => hno ⟨y, List.mem_of_getElem? (i := k) (by rw [List.getElem?_take_of_lt h, List.getElem?_eq_getElem hk, ek]), e2⟩
    have h1 := srt_ch hs (by omega : j ≤ k) ej (by rw [List.getElem?_eq_getElem hk, ek])
    have h2 : z.ch ≠ y.ch := fun e3 => hno ⟨z, hz, by rw [e3, e2]⟩
    omega
  · rw [chN_mem, List.mem_append, chN_mem, mem_upTo, decide_eq_true_eq]
    constructor
    · rintro ⟨a1, a2, a3⟩
      by_cases h : ∃ x ∈ l.take i, x.ch = c
      · exact .inl ⟨a1, a2, h⟩
      · exact .inr ⟨a1, a2, a3, h⟩
    · rintro (⟨a1, a2, z, hz, e⟩ | ⟨a1, a2, a3, _⟩)
      · exact ⟨a1, a2, z, List.mem_of_mem_take hz, e⟩
      · exact ⟨a1, a2, a3⟩
theorem chN_get {l : List On} (hs : SrtN l) {i : Nat} {y : Int} (h : chN (l.take (i + 1)) = chN (l.take i) ++ [y]) : (chN l)[(chN (l.take i)).length]? = some y := by
  obtain ⟨r, hr⟩ := chN_prefix hs (i + 1)
  rw [hr, h, List.append_assoc, List.getElem?_append_right (Nat.le_refl _)]
  simp
theorem chN_nil : chN [] = [] := srtI_ext (chN_srt _) List.Pairwise.nil fun c => by rw [chN_mem]; simp

end Go.Proofs.Ytononiedecpllaa
