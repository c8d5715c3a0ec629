import Derived.Test.YtbnpabpkaebojaaBt12T
/- Package maps (layer 12): places and numbers; entries in memory; the row of a map. -/
set_option linter.unusedVariables false
namespace Go.Proofs.Ytbnpabpkaebojaa
open Go.RowKit

theorem maIsPI (x : Int) (w : World) : Calls Try.prog 43 #[.int .i64 x] w fun e w' => e = .returned (.bool (decide (0 ≤ x ∧ x < 64))) ∧ w' = w := by
  by_cases h1 : 0 ≤ x
  · by_cases h2 : x < 64
    · rw [decide_eq_true (And.intro h1 h2)]
      go_enter Try.func43, Try.ntmps43
      go_wp2_with fail
      go_ret
      exact ⟨rfl, rfl⟩
    · rw [decide_eq_false (fun h : 0 ≤ x ∧ x < 64 => h2 h.2)]
      have h3 : decide (x < 64) = false := decide_eq_false h2
      go_enter Try.func43, Try.ntmps43
      go_wp2_with fail
      go_ret
      exact ⟨rfl, rfl⟩
  · rw [decide_eq_false (fun h : 0 ≤ x ∧ x < 64 => h1 h.1)]
    have h3 : decide (0 ≤ x) = false := decide_eq_false h1
    go_enter Try.func43, Try.ntmps43
    go_wp2_with fail
    go_ret
    exact ⟨rfl, rfl⟩
theorem maIsNI (x : Int) (w : World) : Calls Try.prog 47 #[.int .i64 x] w fun e w' => e = .returned (.bool (decide (1 ≤ x ∧ x ≤ 1023))) ∧ w' = w := by
  by_cases h1 : 1 ≤ x
  · by_cases h2 : x ≤ 1023
    · rw [decide_eq_true (And.intro h1 h2)]
      go_enter Try.func47, Try.ntmps47
      go_wp2_with fail
      go_ret
      exact ⟨rfl, rfl⟩
    · rw [decide_eq_false (fun h : 1 ≤ x ∧ x ≤ 1023 => h2 h.2)]
      have h3 : decide (x ≤ 1023) = false := decide_eq_false h2
      go_enter Try.func47, Try.ntmps47
      go_wp2_with fail
      go_ret
      exact ⟨rfl, rfl⟩
  · rw [decide_eq_false (fun h : 1 ≤ x ∧ x ≤ 1023 => h1 h.1)]
    have h3 : decide (1 ≤ x) = false := decide_eq_false h1
    go_enter Try.func47, Try.ntmps47
    go_wp2_with fail
    go_ret
    exact ⟨rfl, rfl⟩
theorem maIsNU (x : Int) (w : World) : Calls Try.prog 49 #[.int .u64 x] w fun e w' => e = .returned (.bool (decide (1 ≤ x ∧ x ≤ 1023))) ∧ w' = w := by
  by_cases h1 : 1 ≤ x
  · by_cases h2 : x ≤ 1023
    · rw [decide_eq_true (And.intro h1 h2)]
      go_enter Try.func49, Try.ntmps49
      go_wp2_with fail
      go_ret
      exact ⟨rfl, rfl⟩
    · rw [decide_eq_false (fun h : 1 ≤ x ∧ x ≤ 1023 => h2 h.2)]
      have h3 : decide (x ≤ 1023) = false := decide_eq_false h2
      go_enter Try.func49, Try.ntmps49
      go_wp2_with fail
      go_ret
      exact ⟨rfl, rfl⟩
  · rw [decide_eq_false (fun h : 1 ≤ x ∧ x ≤ 1023 => h1 h.1)]
    have h3 : decide (1 ≤ x) = false := decide_eq_false h1
    go_enter Try.func49, Try.ntmps49
    go_wp2_with fail
    go_ret
    exact ⟨rfl, rfl⟩
theorem maIsPU (x : Int) (w : World) : Calls Try.prog 50 #[.int .u64 x] w fun e w' => e = .returned (.bool (decide (0 ≤ x ∧ x < 64))) ∧ w' = w := by
  by_cases h1 : 0 ≤ x
  · by_cases h2 : x < 64
    · rw [decide_eq_true (And.intro h1 h2)]
      go_enter Try.func50, Try.ntmps50
      go_wp2_with fail
      go_ret
      exact ⟨rfl, rfl⟩
    · rw [decide_eq_false (fun h : 0 ≤ x ∧ x < 64 => h2 h.2)]
      have h3 : decide (x < 64) = false := decide_eq_false h2
      go_enter Try.func50, Try.ntmps50
      go_wp2_with fail
      go_ret
      exact ⟨rfl, rfl⟩
  · rw [decide_eq_false (fun h : 0 ≤ x ∧ x < 64 => h1 h.1)]
    have h3 : decide (0 ≤ x) = false := decide_eq_false h1
    go_enter Try.func50, Try.ntmps50
    go_wp2_with fail
    go_ret
    exact ⟨rfl, rfl⟩
theorem r12Place (x : Int) (w : World) : Calls Try.prog 18 #[.int .i64 x] w fun e w' => e = .returned (.bool (decide (0 ≤ x ∧ x < 64))) ∧ w' = w := by
  by_cases h1 : 0 ≤ x
  · by_cases h2 : x < 64
    · rw [decide_eq_true (And.intro h1 h2)]
      go_enter Try.func18, Try.ntmps18
      go_wp2_with fail
      go_ret
      exact ⟨rfl, rfl⟩
    · rw [decide_eq_false (fun h : 0 ≤ x ∧ x < 64 => h2 h.2)]
      have h3 : decide (x < 64) = false := decide_eq_false h2
      go_enter Try.func18, Try.ntmps18
      go_wp2_with fail
      go_ret
      exact ⟨rfl, rfl⟩
  · rw [decide_eq_false (fun h : 0 ≤ x ∧ x < 64 => h1 h.1)]
    have h3 : decide (0 ≤ x) = false := decide_eq_false h1
    go_enter Try.func18, Try.ntmps18
    go_wp2_with fail
    go_ret
    exact ⟨rfl, rfl⟩
theorem r12Chunk (x : Int) (w : World) : Calls Try.prog 22 #[.int .i64 x] w fun e w' => e = .returned (.bool (decide (1 ≤ x ∧ x ≤ 1023))) ∧ w' = w := by
  by_cases h1 : 1 ≤ x
  · by_cases h2 : x ≤ 1023
    · rw [decide_eq_true (And.intro h1 h2)]
      go_enter Try.func22, Try.ntmps22
      go_wp2_with fail
      go_ret
      exact ⟨rfl, rfl⟩
    · rw [decide_eq_false (fun h : 1 ≤ x ∧ x ≤ 1023 => h2 h.2)]
      have h3 : decide (x ≤ 1023) = false := decide_eq_false h2
      go_enter Try.func22, Try.ntmps22
      go_wp2_with fail
      go_ret
      exact ⟨rfl, rfl⟩
  · rw [decide_eq_false (fun h : 1 ≤ x ∧ x ≤ 1023 => h1 h.1)]
    have h3 : decide (1 ≤ x) = false := decide_eq_false h1
    go_enter Try.func22, Try.ntmps22
    go_wp2_with fail
    go_ret
    exact ⟨rfl, rfl⟩

/-! Entries. -/
abbrev Ents := List (Int × Int)
theorem infoEnt : (Try.prog.info? 74).map (fun i => (i.zero, i.size, i.bytes)) = some (some (.agg #[.int .i64 0, .int .i64 0]), 2, 16) := by kernel_rfl
def cellsE : Ents → List Value
  | [] => []
  | v :: r => .int .i64 v.1 :: .int .i64 v.2 :: cellsE r
theorem cellsE_append (a b : Ents) : cellsE (a ++ b) = cellsE a ++ cellsE b := by
  induction a with
  | nil => rfl
  | cons v r ih => rw [List.cons_append, cellsE, ih, cellsE]; rfl
theorem cellsE_length (a : Ents) : (cellsE a).length = a.length * 2 := by
  induction a with
  | nil => rfl
  | cons v r ih => simp only [cellsE, List.length_cons, ih]; omega
def atE (es : Ents) (i : Nat) : Int × Int := es.getD i (0, 0)
theorem atE_get {es : Ents} {i : Nat} (h : i < es.length) : atE es i = es[i] := by
  unfold atE
  rw [List.getD_eq_getElem?_getD, List.getElem?_eq_getElem h]
  rfl
theorem cellsE_at (es : Ents) : ∀ i, i < es.length → (cellsE es)[i * 2]? = some (.int .i64 (atE es i).1) ∧ (cellsE es)[i * 2 + 1]? = some (.int .i64 (atE es i).2) := by
  induction es with
  | nil => intro i h; cases h
  | cons v r ih =>
    intro i h
    cases i with
    | zero => exact ⟨rfl, rfl⟩
    | succ i =>
      have := ih i (by simpa using h)
      rw [show (i + 1) * 2 = i * 2 + 1 + 1 by omega]
      exact this

/-- Entries in memory. -/
structure IsEs (W : World) (a : Option Addr) (es : Ents) : Prop where
  len : es.length ≤ maxLen
  cells : 0 < es.length → ∃ b off, a = some ⟨b, off, none⟩ ∧ b < W.heap.size ∧ ∀ i, i < es.length → W.cell? ⟨b, off + i * 2, none⟩ = some (.int .i64 (atE es i).1) ∧ W.cell? ⟨b, off + i * 2 + 1, none⟩ = some (.int .i64 (atE es i).2)
theorem esAt {X : Nat → Prop} {W W' : World} {a : Option Addr} {es : Ents} (h : IsEs W a es) (hk : KeptIn X W W') (hX : ∀ p, a = some p → X p.block) : IsEs W' a es :=
  ⟨h.len, fun hp => by
    obtain ⟨b, off, e, hb, hc⟩ := h.cells hp
    have hb' := hk.block b (hX _ e)
    refine ⟨b, off, e, Nat.lt_of_lt_of_le hb hk.size, fun i hi => ?_⟩
    obtain ⟨h1, h2⟩ := hc i hi
    exact ⟨(World.cell?_of_block (a := ⟨b, off + i * 2, none⟩) hb').trans h1, (World.cell?_of_block (a := ⟨b, off + i * 2 + 1, none⟩) hb').trans h2⟩⟩
theorem IsEs.old {W W' : World} {a : Option Addr} {es : Ents} (h : IsEs W a es) (hk : KeptIn (· < W.heap.size) W W') : IsEs W' a es :=
  ⟨h.len, fun hp => by
    obtain ⟨b, off, e, hb, hc⟩ := h.cells hp
    exact (esAt h hk fun p e' => by rw [e] at e'; cases e'; exact hb).cells hp⟩
theorem row_IsEs {W : World} {B cap : Nat} {a : Option Addr} {es : Ents} (h : W.ownsRow B 74 2 (.slice a es.length cap) es.length (cellsE es)) : IsEs W a es := by
  rcases h.2 with ⟨e, h0⟩ | ⟨g, cap', cur, e, hg, hb, hc, hm, hs, ht⟩
  · exact ⟨by rw [h0]; exact Nat.zero_le _, fun hp => by omega⟩
  · simp only [Value.slice.injEq, true_and] at e
    refine ⟨Nat.le_trans hc hm, fun _ => ⟨g, 0, e.1, (Array.getElem?_eq_some_iff.1 hb).1, fun i hi => ?_⟩⟩
    obtain ⟨h1, h2⟩ := cellsE_at es i hi
    rw [← ht, List.getElem?_take_of_lt (by omega)] at h1 h2
    rw [Nat.zero_add, cell_of_row _ _ _ _ _ _ hb, cell_of_row _ _ _ _ _ _ hb]
    exact ⟨by simpa using h1, by simpa using h2⟩
theorem row_sliceE {W : World} {B n : Nat} {v : Value} {xs : List Value} (h : W.ownsRow B 74 2 v n xs) : ∃ a cap, v = .slice a n cap ∧ n ≤ cap ∧ cap ≤ maxLen := by
  rcases h.2 with ⟨rfl, rfl⟩ | ⟨g1, cap1, cur, rfl, _, _, h1, h2, _⟩
  · exact ⟨none, 0, rfl, Nat.le_refl _, Nat.zero_le _⟩
  · exact ⟨_, _, rfl, h1, h2⟩

/-- A row of entries that a call makes since block B. -/
def EfJ (B : Nat) (V : World) (out : Ents) (v : Value) (W : World) : Prop := W.ownsRow B 74 2 v out.length (cellsE out) ∧ KeptIn (· < B) V W
theorem EfJ.old {B : Nat} {V W W' : World} {out : Ents} {v : Value} (h : EfJ B V out v W) (hB : B ≤ W.heap.size) (hk : KeptIn (· < W.heap.size) W W') : EfJ B V out v W' :=
  ⟨rowS_block h.1 fun g e => hk.block g (rowS_lt h.1 g e).2, h.2.trans (hk.mono fun k hk' => Nat.lt_of_lt_of_le hk' hB)⟩
theorem EfJ.next {B : Nat} {V W w8 : World} {out : Ents} {v v' : Value} {u : Int × Int} {o : Obj} (h : EfJ B V out v W) (hB : V.heap.size = B) (hown : w8.ownsRow B 74 2 v' (out.length + 1) (cellsE out ++ [.int .i64 u.1, .int .i64 u.2]))
    (hgrow : (W.alloc o).grownBy w8 v.ownBlock) : EfJ B V (out ++ [u]) v' w8 := by
  refine ⟨?_, ?_⟩
  · rw [List.length_append, cellsE_append]; exact hown
  · exact (h.2.trans (((KeptIn.refl _ W).alloc (fun _ h => h) _).mono fun k hk => Nat.lt_of_lt_of_le (by rw [hB]; exact hk) h.2.size)).grown (fun k hk => by rw [hB]; exact hk) hgrow (fun g e => Nat.not_lt.2 (rowS_lt h.1 g e).1)
theorem ef_bnd (j : Nat) (h : j ≤ 1000) : j + 1 ≤ maxLen ∧ (j + 1) * 16 ≤ 140737488355328 := by
  refine ⟨?_, by omega⟩
  unfold maxLen
  omega

/-! Maps as pairs. -/
/-- All pairs are places and numbers. -/
def GoodM (qs : Pairs) : Prop := ∀ p ∈ qs, p.1 < 64 ∧ 1 ≤ p.2 ∧ p.2 ≤ 1023
def esOf (qs : Pairs) : Ents := qs.map fun p => ((p.1 : Int), (p.2 : Int))
theorem esOf_length (qs : Pairs) : (esOf qs).length = qs.length := by simp [esOf]
theorem esOf_at {qs : Pairs} {i : Nat} (h : i < qs.length) : atE (esOf qs) i = ((keyAt qs i : Int), (valAt qs i : Int)) := by
  rw [atE_get (by rw [esOf_length]; exact h), keyAt_get h, valAt_get h]
  simp [esOf]
theorem GoodM.at {qs : Pairs} (h : GoodM qs) {i : Nat} (hi : i < qs.length) : keyAt qs i < 64 ∧ 1 ≤ valAt qs i ∧ valAt qs i ≤ 1023 := by
  rw [keyAt_get hi, valAt_get hi]
  exact h _ (List.getElem_mem hi)
theorem GoodM.sub {qs : Pairs} (h : GoodM qs) {rs : Pairs} (hr : ∀ p ∈ rs, p ∈ qs) : GoodM rs := fun p hp => h p (hr p hp)
theorem goodM_nil : GoodM [] := fun p h => by cases h
theorem goodM_chg {qs xs : Pairs} {k : Nat} (h : GoodM qs) (hx : GoodM xs) : GoodM (chg xs k qs) := by
  intro p hp
  unfold chg at hp
  rcases List.mem_append.1 hp with hp | hp
  · rcases List.mem_append.1 hp with hp | hp
    · exact h p ((List.mem_filter.1 hp).1)
    · exact hx p hp
  · exact h p ((List.mem_filter.1 hp).1)
theorem goodM_take {qs : Pairs} {j : Nat} (hj : j < qs.length) (h : GoodM (qs.take j)) (hk : keyAt qs j < 64) (h1 : 1 ≤ valAt qs j) (h2 : valAt qs j ≤ 1023) : GoodM (qs.take (j + 1)) := by
  intro p hp
  rw [List.take_add_one, List.getElem?_eq_getElem hj] at hp
  rcases List.mem_append.1 hp with hp | hp
  · exact h p hp
  · have : p = qs[j] := by simpa using hp
    subst this
    rw [keyAt_get hj] at hk
    rw [valAt_get hj] at h1 h2
    exact ⟨hk, h1, h2⟩
theorem esOf_take {qs : Pairs} {j : Nat} (hj : j < qs.length) : esOf (qs.take (j + 1)) = esOf (qs.take j) ++ [((keyAt qs j : Int), (valAt qs j : Int))] := by
  unfold esOf
  rw [List.take_add_one, List.getElem?_eq_getElem hj, List.map_append, keyAt_get hj, valAt_get hj]
  rfl

/-- What stands at a place; 0: nothing. -/
def lookM (qs : Pairs) (k : Nat) : Nat := match qs.find? (fun p => p.1 == k) with | some p => p.2 | none => 0
theorem srt_one {qs : Pairs} (hs : Srt qs) {p q : Nat × Nat} (hp : p ∈ qs) (hq : q ∈ qs) (h : p.1 = q.1) : p = q := by
  induction qs with
  | nil => cases hp
  | cons a r ih =>
    have hs' := List.pairwise_cons.1 hs
    rcases List.mem_cons.1 hp with hp' | hp' <;> rcases List.mem_cons.1 hq with hq' | hq'
    · rw [hp', hq']
    · subst hp'
      have := hs'.1 q hq'
      omega
    · subst hq'
      have := hs'.1 p hp'
      omega
    · exact ih hs'.2 hp' hq'
theorem lookM_in {qs : Pairs} (hs : Srt qs) {k v : Nat} (h : (k, v) ∈ qs) : lookM qs k = v := by
  unfold lookM
  cases hf : qs.find? (fun p => p.1 == k) with
  | none =>
    have := List.find?_eq_none.1 hf (k, v) h
    simp at this
  | some p =>
    have h1 := List.mem_of_find?_eq_some hf
    have h2 : p.1 = k := by simpa using List.find?_some hf
    exact congrArg Prod.snd (srt_one hs h1 h h2)
theorem lookM_no {qs : Pairs} {k : Nat} (h : ∀ v, (k, v) ∉ qs) : lookM qs k = 0 := by
  unfold lookM
  cases hf : qs.find? (fun p => p.1 == k) with
  | none => rfl
  | some p =>
    have h1 := List.mem_of_find?_eq_some hf
    have h2 : p.1 = k := by simpa using List.find?_some hf
    exact absurd (by rw [← h2]; exact h1) (h p.2)
theorem lookM_pos {qs : Pairs} (hg : GoodM qs) (hs : Srt qs) {k : Nat} : lookM qs k ≠ 0 ↔ ∃ v, (k, v) ∈ qs := by
  constructor
  · intro h
    exact Classical.byContradiction fun hn => h (lookM_no fun v hv => hn ⟨v, hv⟩)
  · rintro ⟨v, hv⟩
    rw [lookM_in hs hv]
    have := (hg _ hv).2.1
    simp only at this
    omega

/-- A map's row of 64 places. -/
def rowU (qs : Pairs) : List Nat := (List.range 64).map (lookM qs)
theorem rowU_length (qs : Pairs) : (rowU qs).length = 64 := by simp [rowU]
theorem rowU_at (qs : Pairs) {i : Nat} (h : i < 64) : (rowU qs)[i]? = some (lookM qs i) := by
  unfold rowU
  rw [List.getElem?_map, List.getElem?_range h]
  rfl
theorem rowU_nil : rowU [] = List.replicate 64 0 := by
  unfold rowU
  rw [List.map_eq_replicate_iff.2 (fun k _ => show lookM [] k = 0 from rfl)]
  simp
theorem rowU_ext {qs : Pairs} {l : List Nat} (hl : l.length = 64) (h : ∀ i, i < 64 → l[i]? = some (lookM qs i)) : l = rowU qs := by
  refine List.ext_getElem? fun i => ?_
  rcases Nat.lt_or_ge i 64 with hi | hi
  · rw [h i hi, rowU_at qs hi]
  · rw [List.getElem?_eq_none (by omega), List.getElem?_eq_none (by rw [rowU_length]; omega)]
theorem mem_chg12 {xs : Pairs} {k : Nat} {qs : Pairs} {p : Nat × Nat} : p ∈ chg xs k qs ↔ (p ∈ qs ∧ p.1 ≠ k) ∨ p ∈ xs := by
  unfold chg
  simp only [List.mem_append, List.mem_filter, decide_eq_true_eq]
  constructor
  · rintro ((⟨h1, h2⟩ | h) | ⟨h1, h2⟩)
    · exact .inl ⟨h1, by omega⟩
    · exact .inr h
    · exact .inl ⟨h1, by omega⟩
  · rintro (⟨h1, h2⟩ | h)
    · rcases Nat.lt_or_ge p.1 k with h3 | h3
      · exact .inl (.inl ⟨h1, h3⟩)
      · exact .inr ⟨h1, by omega⟩
    · exact .inl (.inr h)
theorem lookM_ext {xs ys : Pairs} (ha : Srt xs) (hb : Srt ys) {k : Nat} (h : ∀ v, (k, v) ∈ xs ↔ (k, v) ∈ ys) : lookM xs k = lookM ys k := by
  by_cases hx : ∃ v, (k, v) ∈ xs
  · obtain ⟨v, hv⟩ := hx
    rw [lookM_in ha hv, lookM_in hb ((h v).1 hv)]
  · rw [lookM_no fun v hv => hx ⟨v, hv⟩, lookM_no fun v hv => hx ⟨v, (h v).2 hv⟩]
theorem lookM_put {qs : Pairs} (hs : Srt qs) {k v : Nat} (hs2 : Srt (chg [(k, v)] k qs)) (j : Nat) : lookM (chg [(k, v)] k qs) j = if j = k then v else lookM qs j := by
  by_cases hj : j = k
  · subst hj
    rw [if_pos rfl]
    exact lookM_in hs2 (mem_chg12.2 (.inr (List.mem_singleton.2 rfl)))
  · rw [if_neg hj]
    refine lookM_ext hs2 hs fun u => ?_
    rw [mem_chg12]
    constructor
    · rintro (⟨h1, _⟩ | h1)
      · exact h1
      · simp only [List.mem_singleton, Prod.mk.injEq] at h1
        exact absurd h1.1 hj
    · exact fun h => .inl ⟨h, hj⟩
theorem lookM_drop {qs : Pairs} (hs : Srt qs) {k : Nat} (hs2 : Srt (chg [] k qs)) (j : Nat) : lookM (chg [] k qs) j = if j = k then 0 else lookM qs j := by
  by_cases hj : j = k
  · subst hj
    rw [if_pos rfl]
    refine lookM_no fun v hv => ?_
    rcases mem_chg12.1 hv with ⟨_, h⟩ | h
    · exact h rfl
    · cases h
  · rw [if_neg hj]
    refine lookM_ext hs2 hs fun u => ?_
    rw [mem_chg12]
    constructor
    · rintro (⟨h1, _⟩ | h1)
      · exact h1
      · cases h1
    · exact fun h => .inl ⟨h, hj⟩
theorem rowU_put {qs : Pairs} (hs : Srt qs) {k v : Nat} (hs2 : Srt (chg [(k, v)] k qs)) : (rowU qs).set k v = rowU (chg [(k, v)] k qs) := by
  refine rowU_ext (by rw [List.length_set, rowU_length]) fun i hi => ?_
  rw [lookM_put hs hs2, List.getElem?_set, rowU_length, rowU_at qs hi]
  by_cases h : k = i
  · subst h; rw [if_pos rfl, if_pos hi, if_pos rfl]
  · rw [if_neg h, if_neg (fun e => h e.symm)]
theorem rowU_drop {qs : Pairs} (hs : Srt qs) {k : Nat} (hs2 : Srt (chg [] k qs)) : (rowU qs).set k 0 = rowU (chg [] k qs) := by
  refine rowU_ext (by rw [List.length_set, rowU_length]) fun i hi => ?_
  rw [lookM_drop hs hs2, List.getElem?_set, rowU_length, rowU_at qs hi]
  by_cases h : k = i
  · subst h; rw [if_pos rfl, if_pos hi, if_pos rfl]
  · rw [if_neg h, if_neg (fun e => h e.symm)]

/-- What a map has below a size, and the rest. -/
theorem take_below {qs : Pairs} (hs : Srt qs) (z : Nat) {p : Nat × Nat} : (p ∈ qs.take (belowK qs z) ↔ p ∈ qs ∧ p.1 < z) ∧ (p ∈ qs.drop (belowK qs z) ↔ p ∈ qs ∧ z ≤ p.1) := by
  obtain ⟨b1, b2⟩ := below_sides hs z
  have e := filter_lt_take hs z
  constructor
  · rw [← e, List.mem_filter]
    simp
  · constructor
    · intro h
      obtain ⟨i, i1, i2, i3⟩ := mem_drop_key h
      exact ⟨List.mem_of_mem_drop h, by rw [← i3]; exact b2 i i1 i2⟩
    · rintro ⟨h1, h2⟩
      rw [← List.take_append_drop (belowK qs z) qs] at h1
      rcases List.mem_append.1 h1 with h | h
      · exfalso
        rw [← e, List.mem_filter] at h
        have : p.1 < z := by simpa using h.2
        omega
      · exact h
theorem srt_take {qs : Pairs} (hs : Srt qs) (n : Nat) : Srt (qs.take n) := List.Pairwise.sublist (List.take_sublist n qs) hs
theorem srt_drop {qs : Pairs} (hs : Srt qs) (n : Nat) : Srt (qs.drop n) := List.Pairwise.sublist (List.drop_sublist n qs) hs
theorem lookM_take {qs : Pairs} (hs : Srt qs) (z j : Nat) : lookM (qs.take (belowK qs z)) j = if j < z then lookM qs j else 0 := by
  by_cases hj : j < z
  · rw [if_pos hj]
    exact lookM_ext (srt_take hs _) hs fun v => by rw [(take_below hs z).1]; exact ⟨fun h => h.1, fun h => ⟨h, hj⟩⟩
  · rw [if_neg hj]
    exact lookM_no fun v hv => hj ((take_below hs z).1.1 hv).2
theorem lookM_dropB {qs : Pairs} (hs : Srt qs) (z j : Nat) : lookM (qs.drop (belowK qs z)) j = if j < z then 0 else lookM qs j := by
  by_cases hj : j < z
  · rw [if_pos hj]
    refine lookM_no fun v hv => ?_
    have := ((take_below hs z).2.1 hv).2
    simp only at this
    omega
  · rw [if_neg hj]
    exact lookM_ext (srt_drop hs _) hs fun v => by rw [(take_below hs z).2]; exact ⟨fun h => h.1, fun h => ⟨h, by simp only; omega⟩⟩

end Go.Proofs.Ytbnpabpkaebojaa
