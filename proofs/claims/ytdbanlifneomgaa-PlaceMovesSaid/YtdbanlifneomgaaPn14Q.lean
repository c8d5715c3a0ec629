import Derived.Test.YtdbanlifneomgaaPl14Q
/- PlaceList of layer 14: what stands between its deeds. -/
set_option linter.unusedVariables false
namespace Go.Proofs.Ytdbanlifneomgaa
open Go.RowKit

/-- A slice of deeds that came in: it has no element; or it leads to its elements' cells. -/
def IsActs14 (w : World) (a : Option Addr) (len : Nat) : Prop :=
  len = 0 ∨ ∃ b off, a = some ⟨b, off, none⟩ ∧ b < w.heap.size ∧ len ≤ maxLen ∧ ∀ i, i < len → ∃ (kd : Int) (x : Pla) (k v : Nat), (Lit.int .i64 kd).wf = true ∧ (Lit.int .i64 x.ch).wf = true ∧ k < 18446744073709551616 ∧ v < 18446744073709551616 ∧
    w.cell? ⟨b, off + i * 6, none⟩ = some (.int .i64 kd) ∧ w.cell? ⟨b, off + i * 6 + 1, none⟩ = some (.int .i64 x.ch) ∧ w.cell? ⟨b, off + i * 6 + 2, none⟩ = some (.int .i64 x.tier) ∧ w.cell? ⟨b, off + i * 6 + 3, none⟩ = some (.int .i64 x.slot) ∧ w.cell? ⟨b, off + i * 6 + 4, none⟩ = some (.int .u64 (k : Int)) ∧ w.cell? ⟨b, off + i * 6 + 5, none⟩ = some (.int .u64 (v : Int))
theorem IsActs14.len_le {w : World} {a : Option Addr} {len : Nat} (h : IsActs14 w a len) : len ≤ maxLen := by
  rcases h with rfl | ⟨b, off, _, _, h, _⟩
  · exact Nat.zero_le _
  · exact h

/-- A deed, boxed. -/
def BoxA14 (y : Nat) (kd : Int) (x : Pla) (k v : Nat) (W : World) : Prop := W.heap[y]? = some (.cells #[.int .i64 kd, .int .i64 x.ch, .int .i64 x.tier, .int .i64 x.slot, .int .u64 (k : Int), .int .u64 (v : Int)] 67 (0, 0))
section
variable {y k v : Nat} {kd : Int} {x : Pla} {W W' : World}
theorem BoxA14.c0 (h : BoxA14 y kd x k v W) : W.cell? ⟨y, 0, none⟩ = some (.int .i64 kd) := by simp [World.cell?, show W.heap[y]? = _ from h]
theorem BoxA14.c1 (h : BoxA14 y kd x k v W) : W.cell? ⟨y, 1, none⟩ = some (.int .i64 x.ch) := by simp [World.cell?, show W.heap[y]? = _ from h]
theorem BoxA14.c2 (h : BoxA14 y kd x k v W) : W.cell? ⟨y, 2, none⟩ = some (.int .i64 x.tier) := by simp [World.cell?, show W.heap[y]? = _ from h]
theorem BoxA14.c3 (h : BoxA14 y kd x k v W) : W.cell? ⟨y, 3, none⟩ = some (.int .i64 x.slot) := by simp [World.cell?, show W.heap[y]? = _ from h]
theorem BoxA14.c4 (h : BoxA14 y kd x k v W) : W.cell? ⟨y, 4, none⟩ = some (.int .u64 (k : Int)) := by simp [World.cell?, show W.heap[y]? = _ from h]
theorem BoxA14.c5 (h : BoxA14 y kd x k v W) : W.cell? ⟨y, 5, none⟩ = some (.int .u64 (v : Int)) := by simp [World.cell?, show W.heap[y]? = _ from h]
theorem BoxA14.lt (h : BoxA14 y kd x k v W) : y < W.heap.size := (Array.getElem?_eq_some_iff.1 h).1
theorem BoxA14.kept {X : Nat → Prop} (h : BoxA14 y kd x k v W) (hk : KeptIn X W W') (hX : X y) : BoxA14 y kd x k v W' := (hk.block y hX).trans h
end

/-- What stands between the deeds: the tree. -/
def Vi14 (w3 : World) (s j root : Nat) (W : World) : Prop := ∃ qs N, TrN w3 s 511 root qs (8 + j) N W ∧ qs.length ≤ j
theorem Vi14.old {w3 W W' : World} {s j root : Nat} (h : Vi14 w3 s j root W) (hk : KeptIn (· < W.heap.size) W W') : Vi14 w3 s j root W' := by
  obtain ⟨qs, N, h1, h2⟩ := h
  exact ⟨qs, N, h1.old hk, h2⟩
theorem Vi14.next {w3 W W' : World} {s j root : Nat} (h : Vi14 w3 s j root W) (hk : KeptIn (· < W.heap.size) W W') : Vi14 w3 s (j + 1) root W' := by
  obtain ⟨qs, N, h1, h2⟩ := h
  exact ⟨qs, N, (h1.old hk).mono14 (by omega), by omega⟩
theorem Vi14.kw {w3 W : World} {s j root : Nat} (h : Vi14 w3 s j root W) : KeptIn (· < w3.heap.size) w3 W := by
  obtain ⟨qs, N, h1, h2⟩ := h
  exact h1.kw14
theorem Vi14.slt {w3 W : World} {s j root : Nat} (h : Vi14 w3 s j root W) : s < W.heap.size := by
  obtain ⟨qs, N, h1, h2⟩ := h
  exact h1.slt14
theorem chg_len14 (xs : Pairs) (k : Nat) (qs : Pairs) : (chg xs k qs).length ≤ qs.length + xs.length := by
  have h1 : (qs.filter fun p => decide (p.1 < k)).length + (qs.filter fun p => decide (k < p.1)).length ≤ qs.length := by
    induction qs with
    | nil => simp
    | cons p r ih =>
      simp only [List.filter_cons, List.length_cons]
      by_cases a : p.1 < k
      · have b : ¬ k < p.1 := by omega
        simp [a, b]; omega
      · by_cases b : k < p.1
        · simp [a, b]; omega
        · simp [a, b]; omega
  unfold chg
  rw [List.length_append, List.length_append]
  omega

/-- What a deed leaves: the room is out; or a tree. -/
def Vr14 (w3 : World) (s j r er : Nat) (W : World) : Prop := (er = 6 ∧ KeptIn (· < w3.heap.size) w3 W) ∨ (er = 0 ∧ Vi14 w3 s j r W)
theorem put14 {w3 w' : World} {s j root k v : Nat} {N : List Nd} {qs : Pairs} (hl : qs.length ≤ j) {r er : Nat} {M : List Nd} (h : (er = 6 ∧ r = 0 ∧ TrN w3 s 511 root qs (8 + j) (N ++ M) w' ∧ min 511 511 ≤ (N ++ M).length) ∨ (er = 0 ∧ TrN w3 s 511 r (chg [(k, v)] k qs) (8 + j + 1) (N ++ M) w')) : Vr14 w3 s (j + 1) r er w' := by
  rcases h with ⟨h1, h2, h3, h4⟩ | ⟨h1, h2⟩
  · exact .inl ⟨h1, h3.kw14⟩
  · refine .inr ⟨h1, _, _, h2.mono14 (by omega), ?_⟩
    have := chg_len14 [(k, v)] k qs
    simp only [List.length_singleton] at this
    omega

/-- What place k of the list is. -/
theorem plsOf_at {ps : Pairs} {l : List Pla} (h : plsOf ps = some l) {i : Nat} (hi : i < ps.length) : readPl (keyAt ps i) (valAt ps i) = some (l.getD i pla0) ∧ l.length = ps.length := by
  refine ⟨?_, plsOf_length h⟩
  induction ps generalizing l i with
  | nil => cases hi
  | cons p r ih =>
    rw [plsOf] at h
    cases hr : readPl p.1 p.2 with
    | none => rw [hr] at h; cases h
    | some v =>
      rw [hr] at h
      cases hv : plsOf r with
      | none => simp [hv] at h
      | some m =>
        simp [hv] at h
        subst h
        cases i with
        | zero => exact hr
        | succ i => exact ih hv (by simpa using hi)
theorem plsOf_take_some {ps : Pairs} (t : Nat) (h : t < ps.length) : (plsOf (ps.take (t + 1))).isSome = ((plsOf (ps.take t)).isSome && (readPl (keyAt ps t) (valAt ps t)).isSome) := by
  rw [take_snoc14 ps t h, plsOf_snoc]
  cases plsOf (ps.take t) with
  | none => rfl
  | some l =>
    cases readPl (keyAt ps t) (valAt ps t) with
    | none => rfl
    | some x => rfl

end Go.Proofs.Ytdbanlifneomgaa
