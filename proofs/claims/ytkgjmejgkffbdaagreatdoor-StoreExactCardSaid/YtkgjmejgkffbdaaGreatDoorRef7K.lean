import Derived.Test.YtkgjmejgkffbdaaGreatDoorRw7K
/- The reference of layer 7 (tierceref07): its state; in, Count, Keep, Sweep. -/
set_option linter.unusedVariables false
namespace Go.Proofs.YtkgjmejgkffbdaaGreatDoor
open Go.RowKit

/-- A row told by its places. -/
def blL (n : Nat) (f : Nat → Bool) : List Bool := (List.range n).map f
theorem blL_length (n : Nat) (f : Nat → Bool) : (blL n f).length = n := by simp [blL]
theorem blL_at {n : Nat} (f : Nat → Bool) {i : Nat} (h : i < n) : (blL n f).getD i false = f i := by
  rw [List.getD_eq_getElem?_getD, blL, List.getElem?_map, List.getElem?_range h]
  rfl
theorem blL_set (n : Nat) (f : Nat → Bool) (i : Nat) (b : Bool) : (blL n f).set i b = blL n (fun q => if q = i then b else f q) := by
  apply List.ext_getElem
  · simp [blL]
  · intro r r1 r2
    rw [List.getElem_set]
    simp only [blL, List.getElem_map, List.getElem_range]
    by_cases e : i = r
    · rw [if_pos e, if_pos e.symm]
    · rw [if_neg e, if_neg (fun h => e h.symm)]
theorem blL_congr {n : Nat} {f g : Nat → Bool} (h : ∀ q, q < n → f q = g q) : blL n f = blL n g :=
  List.map_congr_left fun q hq => h q (List.mem_range.1 hq)
theorem blL_false (n : Nat) : blL n (fun _ => false) = List.replicate n false := by
  rw [List.eq_replicate_iff]
  refine ⟨blL_length _ _, fun b hb => ?_⟩
  simp only [blL, List.mem_map] at hb
  obtain ⟨q, _, rfl⟩ := hb
  rfl

/-- A node's list, as the document's store keeps it. -/
def nodV : Option Nat → Value
  | none => .slice none 0 0
  | some g => .slice (some ⟨g, 0, none⟩) 1 1
def cellsL : List (Option Nat) → List Value
  | [] => []
  | o :: r => .int .i64 0 :: nodV o :: cellsL r
theorem cellsL_length (P : List (Option Nat)) : (cellsL P).length = P.length * 2 := by
  induction P with
  | nil => rfl
  | cons g r ih => rw [cellsL, List.length_cons, List.length_cons, ih, List.length_cons]; omega
theorem cellsL_at (P : List (Option Nat)) : ∀ i, i < P.length → (cellsL P)[i * 2]? = some (.int .i64 0) ∧ (cellsL P)[i * 2 + 1]? = some (nodV (P.getD i none)) := by
  induction P with
  | nil => intro i h; cases h
  | cons g r ih =>
    intro i h
    cases i with
    | zero => exact ⟨rfl, rfl⟩
    | succ i =>
      have := ih i (by simpa using h)
      rw [show (i + 1) * 2 = i * 2 + 1 + 1 by omega, cellsL, List.getElem?_cons_succ, List.getElem?_cons_succ, List.getElem?_cons_succ, List.getElem?_cons_succ]
      exact this
theorem cellsL_set (P : List (Option Nat)) (g : Option Nat) : ∀ i, i < P.length → ((cellsL P).set (i * 2) (.int .i64 0)).set (i * 2 + 1) (nodV g) = cellsL (P.set i g) := by
  induction P with
  | nil => intro i h; cases h
  | cons x r ih =>
    intro i h
    cases i with
    | zero => rfl
    | succ i =>
      have := ih i (by simpa using h)
      rw [show (i + 1) * 2 = i * 2 + 1 + 1 by omega, cellsL, List.set_cons_succ, List.set_cons_succ, List.set_cons_succ, List.set_cons_succ, this, List.set_cons_succ, cellsL]
def ndL (n : Nat) (f : Nat → Option Nat) : List (Option Nat) := (List.range n).map f
theorem ndL_length (n : Nat) (f : Nat → Option Nat) : (ndL n f).length = n := by simp [ndL]
theorem ndL_at {n : Nat} (f : Nat → Option Nat) {i : Nat} (h : i < n) : (ndL n f).getD i none = f i := by
  rw [List.getD_eq_getElem?_getD, ndL, List.getElem?_map, List.getElem?_range h]
  rfl
theorem ndL_set (n : Nat) (f : Nat → Option Nat) (i : Nat) (b : Option Nat) : (ndL n f).set i b = ndL n (fun q => if q = i then b else f q) := by
  apply List.ext_getElem
  · simp [ndL]
  · intro r r1 r2
    rw [List.getElem_set]
    simp only [ndL, List.getElem_map, List.getElem_range]
    by_cases e : i = r
    · rw [if_pos e, if_pos e.symm]
    · rw [if_neg e, if_neg (fun h => e h.symm)]

/-- The document's store: the blocks that it is made of. -/
structure R7 where
  u : Nat
  k : Nat
  f : Nat
  d : Nat
def R7.has (R : R7) (j : Nat) : Prop := j = R.u ∨ j = R.k ∨ j = R.f ∨ j = R.d
/-- The document's store: which pages are committed, which are new, their nodes, the head. -/
structure IsR7 (R : R7) (n : Nat) (K F : Nat → Bool) (L : Nat → Option Nat) (h : Hd) (W : World) : Prop where
  hu : W.heap[R.u]? = some (.cells #[.int .i64 (n : Int), .slice (some ⟨R.k, 0, none⟩) n n, .slice (some ⟨R.f, 0, none⟩) n n, .slice (some ⟨R.d, 0, none⟩) n n, .int .u64 h.gen, .int .i64 h.root, .int .i64 h.slow, .int .i64 h.fast, .int .i64 h.chunk] 62 (0, 0))
  hk : BlRow R.k (blL n K) W
  hf : BlRow R.f (blL n F) W
  hd : W.heap[R.d]? = some (.cells (cellsL (ndL n L)).toArray 47 (0, 0))
  ne : R.k ≠ R.f

section
variable {R : R7} {n : Nat} {K F : Nat → Bool} {L : Nat → Option Nat} {h : Hd} {W W' : World}
theorem rows_ne {x y : Nat} {c c' : Array Value} {t t' : TypeId} {f f' : Nat × Nat} (h1 : W.heap[x]? = some (.cells c t f)) (h2 : W.heap[y]? = some (.cells c' t' f')) (ht : t ≠ t') : x ≠ y := fun e => by
  rw [e, h2] at h1
  simp only [Option.some.injEq, Obj.cells.injEq] at h1
  exact ht h1.2.1.symm
theorem IsR7.uk (k : IsR7 R n K F L h W) : R.u ≠ R.k := rows_ne k.hu k.hk (by decide)
theorem IsR7.uf (k : IsR7 R n K F L h W) : R.u ≠ R.f := rows_ne k.hu k.hf (by decide)
theorem IsR7.ud (k : IsR7 R n K F L h W) : R.u ≠ R.d := rows_ne k.hu k.hd (by decide)
theorem IsR7.kd (k : IsR7 R n K F L h W) : R.k ≠ R.d := rows_ne k.hk k.hd (by decide)
theorem IsR7.fd (k : IsR7 R n K F L h W) : R.f ≠ R.d := rows_ne k.hf k.hd (by decide)
theorem IsR7.lt (k : IsR7 R n K F L h W) : ∀ j, R.has j → j < W.heap.size := by
  rintro j (rfl | rfl | rfl | rfl)
  · exact (Array.getElem?_eq_some_iff.1 k.hu).1
  · exact k.hk.lt
  · exact k.hf.lt
  · exact (Array.getElem?_eq_some_iff.1 k.hd).1
theorem IsR7.kept {X : Nat → Prop} (k : IsR7 R n K F L h W) (hk : KeptIn X W W') (hX : ∀ j, R.has j → X j) : IsR7 R n K F L h W' :=
  ⟨(hk.block _ (hX _ (.inl rfl))).trans k.hu, k.hk.kept hk (hX _ (.inr (.inl rfl))), k.hf.kept hk (hX _ (.inr (.inr (.inl rfl)))), (hk.block _ (hX _ (.inr (.inr (.inr rfl))))).trans k.hd, k.ne⟩
theorem IsR7.old (k : IsR7 R n K F L h W) (hk : KeptIn (· < W.heap.size) W W') : IsR7 R n K F L h W' := k.kept hk k.lt
theorem IsR7.drewN (k : IsR7 R n K F L h W) (m : Nat) : IsR7 R n K F L h (W.drewN m) := ⟨k.hu, k.hk, k.hf, k.hd, k.ne⟩
theorem IsR7.drew (k : IsR7 R n K F L h W) : IsR7 R n K F L h W.drew := ⟨k.hu, k.hk, k.hf, k.hd, k.ne⟩
theorem IsR7.c0 (k : IsR7 R n K F L h W) : W.cell? ⟨R.u, 0, none⟩ = some (.int .i64 (n : Int)) := by simp [World.cell?, k.hu]
theorem IsR7.c1 (k : IsR7 R n K F L h W) : W.cell? ⟨R.u, 1, none⟩ = some (.slice (some ⟨R.k, 0, none⟩) n n) := by simp [World.cell?, k.hu]
theorem IsR7.c2 (k : IsR7 R n K F L h W) : W.cell? ⟨R.u, 2, none⟩ = some (.slice (some ⟨R.f, 0, none⟩) n n) := by simp [World.cell?, k.hu]
theorem IsR7.c3 (k : IsR7 R n K F L h W) : W.cell? ⟨R.u, 3, none⟩ = some (.slice (some ⟨R.d, 0, none⟩) n n) := by simp [World.cell?, k.hu]
theorem IsR7.c4 (k : IsR7 R n K F L h W) : W.cell? ⟨R.u, 4, none⟩ = some (.int .u64 h.gen) := by simp [World.cell?, k.hu]
theorem IsR7.c5 (k : IsR7 R n K F L h W) : W.cell? ⟨R.u, 5, none⟩ = some (.int .i64 h.root) := by simp [World.cell?, k.hu]
theorem IsR7.c6 (k : IsR7 R n K F L h W) : W.cell? ⟨R.u, 6, none⟩ = some (.int .i64 h.slow) := by simp [World.cell?, k.hu]
theorem IsR7.c7 (k : IsR7 R n K F L h W) : W.cell? ⟨R.u, 7, none⟩ = some (.int .i64 h.fast) := by simp [World.cell?, k.hu]
theorem IsR7.c8 (k : IsR7 R n K F L h W) : W.cell? ⟨R.u, 8, none⟩ = some (.int .i64 h.chunk) := by simp [World.cell?, k.hu]
theorem IsR7.fu (k : IsR7 R n K F L h W) (i : Nat) : W.frozen? ⟨R.u, i, none⟩ = false := by simp [World.frozen?, k.hu]
theorem IsR7.fd' (k : IsR7 R n K F L h W) (i : Nat) : W.frozen? ⟨R.d, i, none⟩ = false := by simp [World.frozen?, k.hd]
theorem IsR7.ak (k : IsR7 R n K F L h W) (i : Nat) (hi : i < n) : W.cell? ⟨R.k, i, none⟩ = some (.bool (K i)) := by
  have := k.hk.at i (by rw [blL_length]; exact hi)
  rwa [blL_at K hi] at this
theorem IsR7.af (k : IsR7 R n K F L h W) (i : Nat) (hi : i < n) : W.cell? ⟨R.f, i, none⟩ = some (.bool (F i)) := by
  have := k.hf.at i (by rw [blL_length]; exact hi)
  rwa [blL_at F hi] at this
theorem IsR7.ad (k : IsR7 R n K F L h W) (i : Nat) (hi : i < n) : W.cell? ⟨R.d, i * 2, none⟩ = some (.int .i64 0) ∧ W.cell? ⟨R.d, i * 2 + 1, none⟩ = some (nodV (L i)) := by
  obtain ⟨h1, h2⟩ := cellsL_at (ndL n L) i (by rw [ndL_length]; exact hi)
  rw [ndL_at L hi] at h2
  rw [cell_of_row _ _ _ _ _ _ k.hd, cell_of_row _ _ _ _ _ _ k.hd]
  exact ⟨by simpa using h1, by simpa using h2⟩
/-- A page is committed, or isn't. -/
theorem IsR7.setK (k : IsR7 R n K F L h W) (i : Nat) (b : Bool) : IsR7 R n (fun q => if q = i then b else K q) F L h (W.setCell ⟨R.k, i, none⟩ (.bool b)) := by
  have hk : KeptIn (· ≠ R.k) W (W.setCell ⟨R.k, i, none⟩ (.bool b)) := (KeptIn.refl _ W).setCell (p := ⟨R.k, i, none⟩) (by simp) _
  refine ⟨(hk.block _ k.uk).trans k.hu, ?_, k.hf.kept hk k.ne.symm, (hk.block _ k.kd.symm).trans k.hd, k.ne⟩
  rw [← blL_set]
  exact k.hk.set i b
theorem IsR7.setF (k : IsR7 R n K F L h W) (i : Nat) (b : Bool) : IsR7 R n K (fun q => if q = i then b else F q) L h (W.setCell ⟨R.f, i, none⟩ (.bool b)) := by
  have hk : KeptIn (· ≠ R.f) W (W.setCell ⟨R.f, i, none⟩ (.bool b)) := (KeptIn.refl _ W).setCell (p := ⟨R.f, i, none⟩) (by simp) _
  refine ⟨(hk.block _ k.uf).trans k.hu, k.hk.kept hk k.ne, ?_, (hk.block _ k.fd.symm).trans k.hd, k.ne⟩
  rw [← blL_set]
  exact k.hf.set i b
theorem IsR7.setD (k : IsR7 R n K F L h W) (i : Nat) (hi : i < n) (g : Option Nat) : IsR7 R n K F (fun q => if q = i then g else L q) h ((W.setCell ⟨R.d, i * 2, none⟩ (.int .i64 0)).setCell ⟨R.d, i * 2 + 1, none⟩ (nodV g)) := by
  have hk : KeptIn (· ≠ R.d) W ((W.setCell ⟨R.d, i * 2, none⟩ (.int .i64 0)).setCell ⟨R.d, i * 2 + 1, none⟩ (nodV g)) := ((KeptIn.refl _ W).setCell (p := ⟨R.d, i * 2, none⟩) (by simp) _).setCell (p := ⟨R.d, i * 2 + 1, none⟩) (by simp) _
  refine ⟨(hk.block _ k.ud).trans k.hu, k.hk.kept hk k.kd, k.hf.kept hk k.fd, ?_, k.ne⟩
  have h1 := heap_setCell_same W R.d (i * 2) _ _ (.int .i64 0) k.hd
  have h2 := heap_setCell_same (W.setCell ⟨R.d, i * 2, none⟩ (.int .i64 0)) R.d (i * 2 + 1) _ _ (nodV g) h1
  refine h2.trans ?_
  rw [← ndL_set, ← cellsL_set (ndL n L) g i (by rw [ndL_length]; exact hi)]
  simp
theorem IsR7.putH (k : IsR7 R n K F L h W) (h' : Hd) : IsR7 R n K F L h' (((((W.setCell ⟨R.u, 4, none⟩ (.int .u64 h'.gen)).setCell ⟨R.u, 5, none⟩ (.int .i64 h'.root)).setCell ⟨R.u, 6, none⟩ (.int .i64 h'.slow)).setCell ⟨R.u, 7, none⟩ (.int .i64 h'.fast)).setCell ⟨R.u, 8, none⟩ (.int .i64 h'.chunk)) := by
  have hk : KeptIn (· ≠ R.u) W (((((W.setCell ⟨R.u, 4, none⟩ (.int .u64 h'.gen)).setCell ⟨R.u, 5, none⟩ (.int .i64 h'.root)).setCell ⟨R.u, 6, none⟩ (.int .i64 h'.slow)).setCell ⟨R.u, 7, none⟩ (.int .i64 h'.fast)).setCell ⟨R.u, 8, none⟩ (.int .i64 h'.chunk)) :=
    (((((KeptIn.refl _ W).setCell (p := ⟨R.u, 4, none⟩) (by simp) _).setCell (p := ⟨R.u, 5, none⟩) (by simp) _).setCell (p := ⟨R.u, 6, none⟩) (by simp) _).setCell (p := ⟨R.u, 7, none⟩) (by simp) _).setCell (p := ⟨R.u, 8, none⟩) (by simp) _
  refine ⟨?_, k.hk.kept hk k.uk.symm, k.hf.kept hk k.uf.symm, (hk.block _ k.ud.symm).trans k.hd, k.ne⟩
  have h1 := heap_setCell_same W R.u 4 _ _ (.int .u64 h'.gen) k.hu
  have h2 := heap_setCell_same _ R.u 5 _ _ (.int .i64 h'.root) h1
  have h3 := heap_setCell_same _ R.u 6 _ _ (.int .i64 h'.slow) h2
  have h4 := heap_setCell_same _ R.u 7 _ _ (.int .i64 h'.fast) h3
  have h5 := heap_setCell_same _ R.u 8 _ _ (.int .i64 h'.chunk) h4
  exact h5.trans rfl
theorem IsR7.congr {K' F' : Nat → Bool} (k : IsR7 R n K F L h W) (hK : ∀ q, q < n → K q = K' q) (hF : ∀ q, q < n → F q = F' q) : IsR7 R n K' F' L h W :=
  ⟨k.hu, by rw [← blL_congr hK]; exact k.hk, by rw [← blL_congr hF]; exact k.hf, k.hd, k.ne⟩
end

/-- A call that changes the document's store alone. -/
abbrev FrR (R : R7) (W W' : World) : Prop := KeptIn (fun j => j < W.heap.size ∧ ¬ R.has j) W W'

theorem r7in (A : Ad) (x : Int) (b : Option Addr) (cap : Nat) (l : List Int) (w : World) (hi : IntsIn A w b l) :
    Calls Tryz.prog 44 #[.slice b l.length cap, .int .i64 x] w fun e w' => e = .returned (.bool (decide (x ∈ l))) ∧ w = w' := by
  obtain ⟨n, hn⟩ : ∃ n, l.length = n := ⟨_, rfl⟩
  obtain ⟨r, hr⟩ : ∃ r, decide (x ∈ l) = r := ⟨_, rfl⟩
  have hm : (n : Int) ≤ 9223372036854775807 := by have := hi.len; unfold maxLen at this; omega
  have H := Lib.hid hi; have HN := Lib.hid hn; have HR := Lib.hid hr
  rw [hr, hn]
  clear hi hn hr
  go_enter Tryz.func44, Tryz.ntmps44
  go_wp2_with fail
  go_loopw [5] (fun c wr => ∃ (j : Nat) (V : World), V = wr ∧ wr = w ∧ j ≤ n ∧ c = .int .i64 j ∧ Hid (∀ i, i < j → l.getD i 0 ≠ x)) (fun c _ => n - (RowKit.intOf c).toNat)
  case atStart => exact ⟨0, _, rfl, by trivial, Nat.zero_le _, rfl, Lib.hid fun i hi => absurd hi (by omega)⟩
  case round =>
    obtain ⟨j, V, rfl, rfl, hj, rfl, HJ⟩ := hrel
    have d0 : (0 : Int) ≤ (j : Int) := by omega
    by_cases hlt : j < n
    · have d1 : (j : Int) < (n : Int) := by omega
      have hjl : j < l.length := by rw [HN.out]; exact hlt
      obtain ⟨g, off, rfl, _, _, hc⟩ := H.out.cells (by omega)
      have e1 := hc j hjl
      obtain ⟨y, hy⟩ : ∃ y, l.getD j 0 = y := ⟨_, rfl⟩
      rw [hy] at e1
      clear hc
      by_cases hxy : y = x
      · have HA : Hid (r = true) := Lib.hid (by rw [← HR.out]; exact decide_eq_true (by rw [← hxy, ← hy, List.getD_eq_getElem?_getD, List.getElem?_eq_getElem hjl]; exact List.getElem_mem hjl))
        subst hxy
        clear hy HJ hjl
        go_wp2_with fail
        go_ret
        exact ⟨by rw [HA.out]; rfl, rfl⟩
      · have HJ2 : Hid (∀ i, i < j + 1 → l.getD i 0 ≠ x) := Lib.hid fun i hi => by
          rcases Nat.lt_or_ge i j with h | h
          · exact HJ.out i h
          · obtain rfl : i = j := by omega
            rw [hy]; exact hxy
        have hxb : (y == x) = false := by simpa using hxy
        clear hy HJ hjl
        go_wp2_with fail
        go_roundw
        case rel => exact ⟨j + 1, _, rfl, by trivial, by omega, by go_num, HJ2⟩
        case measure => simp [RowKit.intOf]; omega
    · have d1 : (n : Int) ≤ (j : Int) := by omega
      have HA : Hid (r = false) := Lib.hid (by
        rw [← HR.out]
        refine decide_eq_false fun h => ?_
        obtain ⟨i, hi, e⟩ := List.getElem_of_mem h
        have := HJ.out i (by rw [HN.out] at hi; omega)
        rw [List.getD_eq_getElem?_getD, List.getElem?_eq_getElem hi] at this
        exact this e)
      clear HJ
      go_wp2_with fail
      go_ret
      exact ⟨by rw [HA.out]; rfl, rfl⟩
/-- in, in a world that a region has drawn in, or not. -/
theorem r7inV {A : Ad} {R : R7} {w : World} {b : Option Addr} {cap : Nat} {l : List Int} (hi : IntsIn A w b l) (hb : ∀ g off, b = some ⟨g, off, none⟩ → 0 < l.length → ¬ R.has g) (W : World) (hf : FrR R w W) (q : Nat) (V : World) (hV : V = W ∨ V = W.drew) :
    Calls Tryz.prog 44 #[.slice b l.length cap, .int .i64 (q : Int)] V fun e w' => e = .returned (.bool (decide ((q : Int) ∈ l))) ∧ V = w' :=
  r7in A q b cap l _ (by
    have h0 : IntsIn A W b l := ⟨hi.len, hi.wf, fun hp => by
      obtain ⟨g, off, e, hlt, hn, hc⟩ := hi.cells hp
      exact ⟨g, off, e, Nat.lt_of_lt_of_le hlt hf.size, hn, fun i hi' => (World.cell?_of_block (a := ⟨g, off + i, none⟩) (hf.block g ⟨hlt, hb g off e hp⟩)).trans (hc i hi')⟩⟩
    rcases hV with rfl | rfl
    · exact h0
    · exact ⟨h0.len, h0.wf, h0.cells⟩)
theorem r7inQ (A : Ad) (x : Int) (b : Option Addr) (cap : Nat) (l : List Int) (w : World) (hi : IntsIn A w b l) :
    Calls Tryz.prog 44 #[.slice b l.length cap, .int .i64 x] w fun e w' => e = .returned (.bool (decide (x ∈ l))) ∧ w' = w :=
  (r7in A x b cap l w hi).mono fun _ _ ⟨h1, h2⟩ => ⟨h1, h2.symm⟩

/-- Places ahead of j have the new word. -/
def mixR (j : Nat) (G f : Nat → Bool) : Nat → Bool := fun q => if 1 ≤ q ∧ q < j then G q else f q
theorem mixR_one (G f : Nat → Bool) : mixR 1 G f = f := by
  funext q
  unfold mixR
  rw [if_neg (by omega)]
theorem mixR_self (j : Nat) (G f : Nat → Bool) : mixR j G f j = f j := by unfold mixR; rw [if_neg (by omega)]
theorem mixR_succ (j : Nat) (hj : 1 ≤ j) (G f : Nat → Bool) : (fun q => if q = j then G j else mixR j G f q) = mixR (j + 1) G f := by
  funext q
  unfold mixR
  by_cases e : q = j
  · subst e
    rw [if_pos rfl, if_pos (by omega)]
  · rw [if_neg e]
    by_cases h : 1 ≤ q ∧ q < j
    · rw [if_pos h, if_pos (by omega)]
    · rw [if_neg h, if_neg (by omega)]
theorem mixR_at (j : Nat) (hj : 1 ≤ j) (G f : Nat → Bool) : mixR (j + 1) G f j = G j := by unfold mixR; rw [if_pos (by omega)]
theorem mixR_all (n : Nat) (G f : Nat → Bool) (q : Nat) (hq : q < n) : mixR n G f q = if q = 0 then f 0 else G q := by
  unfold mixR
  by_cases e : q = 0
  · subst e; rw [if_neg (by omega), if_pos rfl]
  · rw [if_pos (by omega), if_neg e]

/-- What Keep leaves. -/
def kepK (l : List Int) (K : Nat → Bool) : Nat → Bool := fun q => if q = 0 then K 0 else decide ((q : Int) ∈ l)
def kepF (l : List Int) (F : Nat → Bool) : Nat → Bool := fun q => if q = 0 then F 0 else F q && !decide ((q : Int) ∈ l)
/-- What Sweep leaves. -/
def swpF (l : List Int) (F : Nat → Bool) : Nat → Bool := fun q => if q = 0 then F 0 else F q && decide ((q : Int) ∈ l)

set_option maxHeartbeats 1000000 in
theorem r7Sweep {A : Ad} {R : R7} {n : Nat} {K F : Nat → Bool} {L : Nat → Option Nat} {h : Hd} {w : World} (k : IsR7 R n K F L h w) (h1 : 1 ≤ n) (hn : n ≤ 512) (b : Option Addr) (cap : Nat) (l : List Int) (hi : IntsIn A w b l) (hb : ∀ g off, b = some ⟨g, off, none⟩ → 0 < l.length → ¬ R.has g) :
    Calls Tryz.prog 15 #[.pointer (some ⟨R.u, 0, none⟩), .slice b l.length cap] w fun e w' => e = .returned (.tuple #[]) ∧ IsR7 R n K (swpF l F) L h w' ∧ FrR R w w' := by
  obtain ⟨G, hG⟩ : ∃ G : Nat → Bool, G = fun q => F q && decide ((q : Int) ∈ l) := ⟨_, rfl⟩
  have hfin : ∀ W, IsR7 R n K (mixR n G F) L h W → IsR7 R n K (swpF l F) L h W := fun W r => r.congr (fun _ _ => rfl) fun q hq => by
    rw [mixR_all n G F q hq, hG]
    rfl
  have hm : (n : Int) ≤ 512 := by omega
  have hC := r7inV (cap := cap) hi hb
  obtain ⟨ll, hll⟩ : ∃ ll, l.length = ll := ⟨_, rfl⟩
  rw [hll] at hC
  rw [hll]
  have r0 : IsR7 R n K (mixR 1 G F) L h w ∧ FrR R w w := ⟨by rw [mixR_one]; exact k, .refl _ _⟩
  have HFIN := Lib.hid hfin; have HC := Lib.hid hC; have HR0 := Lib.hid r0; have HG := Lib.hid hG
  clear hfin hC r0 hG hb hi k hll
  go_enter Tryz.func15, Tryz.ntmps15
  go_wp2_with fail
  go_loopw [4] (fun c wr => ∃ (j : Nat) (V : World), V = wr ∧ 1 ≤ j ∧ j ≤ n ∧ c = .int .i64 j ∧ Hid (IsR7 R n K (mixR j G F) L h V ∧ FrR R w V)) (fun c _ => n - (RowKit.intOf c).toNat)
  case atStart => exact ⟨1, _, rfl, Nat.le_refl _, h1, rfl, HR0⟩
  case round =>
    obtain ⟨j, V, rfl, hj1, hj, rfl, HJ⟩ := hrel
    clear HR0
    have d0 : (0 : Int) ≤ (j : Int) := by omega
    have c0 := HJ.out.1.c0
    by_cases hlt : j < n
    · have d1 : (j : Int) < (n : Int) := by omega
      have c2 := HJ.out.1.c2
      have e1 := HJ.out.1.af j hlt
      rw [mixR_self] at e1
      have z1 := HJ.out.1.hf.fz j
      have hset : IsR7 R n K (mixR (j + 1) G F) L h (V.setCell ⟨R.f, j, none⟩ (.bool (G j))).drew ∧ FrR R w (V.setCell ⟨R.f, j, none⟩ (.bool (G j))).drew :=
        ⟨by rw [← mixR_succ j hj1 G F]; exact (HJ.out.1.setF j (G j)).drew, (HJ.out.2.setCell (p := ⟨R.f, j, none⟩) (by simp [R7.has]) _).drew⟩
      have HCJ := Lib.hid (HC.out V HJ.out.2 j)
      have hGj : G j = (F j && decide ((j : Int) ∈ l)) := by rw [HG.out]
      rw [hGj] at hset
      have HS := Lib.hid hset
      obtain ⟨fj, hfj⟩ : ∃ fj, F j = fj := ⟨_, rfl⟩
      obtain ⟨ij, hij⟩ : ∃ ij, decide ((j : Int) ∈ l) = ij := ⟨_, rfl⟩
      rw [hfj] at e1 HS
      rw [hij] at HCJ HS
      clear hset hGj hfj hij HJ HC
      cases fj with
      | true =>
        rw [Bool.true_and] at HS
        go_wp2_with fail
        go_region_law (first | (go_simp; go_at_call 44; refine (HCJ.out _ (by first | exact .inl rfl | exact .inr rfl)).mono ?_; rintro e w' ⟨rfl, rfl⟩))
        all_goals
          clear HCJ e1 c0 c2 z1
          go_wp2_with fail
          go_roundw
          case rel => exact ⟨j + 1, _, rfl, by omega, by omega, by go_num, HS⟩
          case measure => simp [RowKit.intOf]; omega
      | false =>
        rw [Bool.false_and] at HS
        clear HCJ
        go_wp2_with fail
        go_region
        all_goals
          clear e1 c0 c2 z1
          go_wp2_with fail
          go_roundw
          case rel => exact ⟨j + 1, _, rfl, by omega, by omega, by go_num, HS⟩
          case measure => simp [RowKit.intOf]; omega
    · obtain rfl : j = n := by omega
      have HX := Lib.hid (And.intro (HFIN.out V HJ.out.1) HJ.out.2)
      clear HJ HC HFIN
      go_wp2_with fail
      go_end0
      exact ⟨rfl, HX.out⟩

end Go.Proofs.YtkgjmejgkffbdaaGreatDoor
