import Derived.Test.YtlnlgapjlekehaaLo4K
import Derived.Test.YtlnlgapjlekehaaIn8K
import Derived.Test.YtlnlgapjlekehaaRp8K
import Derived.Test.YtlnlgapjlekehaaAw8K
/- TreeMap of layer 8: what stands between its deeds. -/
set_option linter.unusedVariables false
namespace Go.Proofs.Ytlnlgapjlekehaa
open Go.RowKit

/-- A slice of deeds that came in: it has no element; or it leads to its elements' cells. -/
def IsActs8 (w : World) (a : Option Addr) (len : Nat) : Prop :=
  len = 0 ∨ ∃ b off, a = some ⟨b, off, none⟩ ∧ b < w.heap.size ∧ len ≤ maxLen ∧ ∀ i, i < len → ∃ (kd : Int) (k x : Nat), (Lit.int .i64 kd).wf = true ∧ k < 18446744073709551616 ∧ x < 18446744073709551616 ∧
    w.cell? ⟨b, off + i * 3, none⟩ = some (.int .i64 kd) ∧ w.cell? ⟨b, off + i * 3 + 1, none⟩ = some (.int .u64 (k : Int)) ∧ w.cell? ⟨b, off + i * 3 + 2, none⟩ = some (.int .u64 (x : Int))
theorem IsActs8.len_le {w : World} {a : Option Addr} {len : Nat} (h : IsActs8 w a len) : len ≤ maxLen := by
  rcases h with rfl | ⟨b, off, _, _, h, _⟩
  · exact Nat.zero_le _
  · exact h

/-- What stands between the deeds: the tree, and the document's row of pairs. -/
structure Mi (w3 : World) (s room j root : Nat) (qs : Pairs) (N : List Nd) (a : Option Addr) (W : World) : Prop where
  tr : TrN w3 s room root qs (8 + j) N W
  ps : IsPs W a qs
  blk : ∀ p, a = some p → s < p.block ∧ p.block < W.heap.size
  ln : qs.length ≤ j

theorem Mi.old {w3 W W' : World} {s room j root : Nat} {qs : Pairs} {N : List Nd} {a : Option Addr} (h : Mi w3 s room j root qs N a W) (hk : KeptIn (· < W.heap.size) W W') : Mi w3 s room j root qs N a W' :=
  ⟨h.tr.old hk, h.ps.old hk, fun p e => ⟨(h.blk p e).1, Nat.lt_of_lt_of_le (h.blk p e).2 hk.size⟩, h.ln⟩
theorem trn_kw {w3 W : World} {s room root f : Nat} {qs : Pairs} {N : List Nd} (h : TrN w3 s room root qs f N W) : KeptIn (· < w3.heap.size) w3 W := by
  obtain ⟨D, h1, h2, h3, h4, h5⟩ := h
  exact h5
theorem trn_srt {w3 W : World} {s room root f : Nat} {qs : Pairs} {N : List Nd} (h : TrN w3 s room root qs f N W) : Srt qs := by
  obtain ⟨D, h1, h2, h3, h4, h5⟩ := h
  exact h2.srt
theorem trn_slt {w3 W : World} {s room root f : Nat} {qs : Pairs} {N : List Nd} (h : TrN w3 s room root qs f N W) : s < W.heap.size := by
  obtain ⟨D, h1, _⟩ := h
  exact h1.lt s h1.ds
theorem trn_mono {w3 W : World} {s room root f f' : Nat} {qs : Pairs} {N : List Nd} (h : TrN w3 s room root qs f N W) (hf : f ≤ f') : TrN w3 s room root qs f' N W := by
  obtain ⟨D, h1, h2, h3⟩ := h
  exact ⟨D, h1, h2.mono hf, h3⟩
/-- The Shelf's list. -/
theorem trn_list {w3 W : World} {s room root f : Nat} {qs : Pairs} {N : List Nd} (h : TrN w3 s room root qs f N W) : ∃ la cap, W.cell? ⟨s, 0, none⟩ = some (.slice la N.length cap) ∧ N.length ≤ 511 := by
  obtain ⟨D, h1, _⟩ := h
  obtain ⟨la, cap, h2, _⟩ := h1.mem
  exact ⟨la, cap, (cell_of_row _ _ 0 _ _ _ h2).trans rfl, h1.len⟩
theorem Mi.next {w3 W w' W9 : World} {s room j root r cap n : Nat} {qs out : Pairs} {N N' : List Nd} {a a' : Option Addr} (h : Mi w3 s room j root qs N a W) (ht : TrN w3 s room r out (8 + (j + 1)) N' w')
    (hrow : W9.ownsRow w'.heap.size 38 2 (.slice a' n cap) out.length (cellsP out)) (hn : n = out.length) (hk : KeptIn (· < w'.heap.size) w' W9) (hf : Fits out) (hl : out.length ≤ qs.length + 1) (hs : s < w'.heap.size) : Mi w3 s room (j + 1) r out N' a' W9 := by
  subst hn
  refine ⟨ht.old hk, row_IsPs hrow hf, fun p e => ?_, by have := h.ln; omega⟩
  rcases hrow.2 with ⟨e1, _⟩ | ⟨g, cap', cur, e1, hg, hb, _⟩
  · simp only [Value.slice.injEq] at e1
    rw [e1.1] at e
    cases e
  · simp only [Value.slice.injEq] at e1
    rw [e1.1] at e
    cases e
    exact ⟨Nat.lt_of_lt_of_le hs hg, (Array.getElem?_eq_some_iff.1 hb).1⟩
/-- A deed that leaves the row as it was. -/
theorem Mi.same {w3 W w' : World} {s room j root : Nat} {qs : Pairs} {N N' : List Nd} {a : Option Addr} (h : Mi w3 s room j root qs N a W) (ht : TrN w3 s room root qs (8 + j) N' w') (hfr : Fr8 s W w') : Mi w3 s room (j + 1) root qs N' a w' :=
  ⟨trn_mono ht (by omega), psAt h.ps hfr fun p e => ⟨(h.blk p e).2, Nat.ne_of_gt (h.blk p e).1⟩, fun p e => ⟨(h.blk p e).1, Nat.lt_of_lt_of_le (h.blk p e).2 hfr.size⟩, Nat.le_succ_of_le h.ln⟩
theorem Mi.mono {w3 W : World} {s room j root : Nat} {qs : Pairs} {N : List Nd} {a : Option Addr} (h : Mi w3 s room j root qs N a W) : Mi w3 s room (j + 1) root qs N a W :=
  ⟨trn_mono h.tr (by omega), h.ps, h.blk, Nat.le_succ_of_le h.ln⟩
theorem Mi.ps' {w3 W w' : World} {s room j root : Nat} {qs : Pairs} {N : List Nd} {a : Option Addr} (h : Mi w3 s room j root qs N a W) (hfr : Fr8 s W w') : IsPs w' a qs :=
  psAt h.ps hfr fun p e => ⟨(h.blk p e).2, Nat.ne_of_gt (h.blk p e).1⟩

theorem fits_chg8 {qs : Pairs} {k v : Nat} (h : Fits qs) (hk : k < 18446744073709551616) (hv : v < 18446744073709551616) : Fits (chg [(k, v)] k qs) := by
  intro p hp
  unfold chg at hp
  rcases List.mem_append.1 hp with hp | hp
  · rcases List.mem_append.1 hp with hp | hp
    · exact h p (List.mem_filter.1 hp).1
    · rw [List.mem_singleton.1 hp]
      exact ⟨hk, hv⟩
  · exact h p (List.mem_filter.1 hp).1
theorem fits_drp8 {qs : Pairs} {k : Nat} (h : Fits qs) : Fits (drp k qs) := fun p hp => h p (List.mem_filter.1 hp).1
theorem drp_lt8 {qs : Pairs} {k : Nat} : decide ((drp k qs).length < qs.length) = true ↔ ∃ v, (k, v) ∈ qs := by
  rw [decide_eq_true_iff]
  unfold drp
  induction qs with
  | nil => simp
  | cons p r ih =>
    rw [List.filter_cons]
    by_cases hp : p.1 = k
    · rw [if_neg (by simpa using hp)]
      have := List.length_filter_le (fun p : Nat × Nat => decide (p.1 ≠ k)) r
      rw [List.length_cons]
      refine ⟨fun _ => ⟨p.2, ?_⟩, fun _ => by omega⟩
      rw [← hp]
      exact List.mem_cons_self
    · rw [if_pos (by simpa using hp), List.length_cons, List.length_cons]
      rw [Nat.add_lt_add_iff_right, ih]
      constructor
      · rintro ⟨v, hv⟩
        exact ⟨v, List.mem_cons_of_mem _ hv⟩
      · rintro ⟨v, hv⟩
        rcases List.mem_cons.1 hv with e | e
        · exact absurd (by rw [← e]) hp
        · exact ⟨v, e⟩
theorem chg_len8 (k v : Nat) (qs : Pairs) : (chg [(k, v)] k qs).length ≤ qs.length + 1 := by
  have := chg_len2 [(k, v)] k qs
  simpa using this
/-- One key's pairs. -/
theorem rng_one {qs : Pairs} {k v : Nat} (hs : Srt qs) (h : (k, v) ∈ qs) : rng k k qs = [(k, v)] := by
  unfold rng
  induction qs with
  | nil => cases h
  | cons p r ih =>
    obtain ⟨h1, h2⟩ := List.pairwise_cons.1 hs
    rw [List.filter_cons]
    rcases List.mem_cons.1 h with e | e
    · rw [if_pos (by rw [← e]; simp), ← e]
      congr 1
      rw [List.filter_eq_nil_iff]
      intro q hq
      have := h1 q hq
      rw [← e] at this
      simp
      omega
    · have := h1 _ e
      rw [if_neg (by simp; omega)]
      exact ih h2 e
theorem rng_no {qs : Pairs} {k : Nat} (h : ∀ v, (k, v) ∉ qs) : rng k k qs = [] := by
  unfold rng
  rw [List.filter_eq_nil_iff]
  intro q hq
  have : q.1 ≠ k := fun e => h q.2 (by rw [← e]; exact hq)
  simp
  omega
theorem fits_rng {qs : Pairs} {a b : Nat} (h : Fits qs) : Fits (rng a b qs) := fun p hp => h p (List.mem_filter.1 hp).1

/-- A deed, boxed. -/
def BoxA8 (y : Nat) (kd : Int) (k x : Nat) (W : World) : Prop := W.heap[y]? = some (.cells #[.int .i64 kd, .int .u64 (k : Int), .int .u64 (x : Int)] 32 (0, 0))
section
variable {y k x : Nat} {kd : Int} {W W' : World}
theorem BoxA8.c0 (h : BoxA8 y kd k x W) : W.cell? ⟨y, 0, none⟩ = some (.int .i64 kd) := by simp [World.cell?, show W.heap[y]? = _ from h]
theorem BoxA8.c1 (h : BoxA8 y kd k x W) : W.cell? ⟨y, 1, none⟩ = some (.int .u64 (k : Int)) := by simp [World.cell?, show W.heap[y]? = _ from h]
theorem BoxA8.c2 (h : BoxA8 y kd k x W) : W.cell? ⟨y, 2, none⟩ = some (.int .u64 (x : Int)) := by simp [World.cell?, show W.heap[y]? = _ from h]
theorem BoxA8.lt (h : BoxA8 y kd k x W) : y < W.heap.size := (Array.getElem?_eq_some_iff.1 h).1
theorem BoxA8.kept {X : Nat → Prop} (h : BoxA8 y kd k x W) (hk : KeptIn X W W') (hX : X y) : BoxA8 y kd k x W' := (hk.block y hX).trans h
end
/-- What stands within a deed. -/
def Md (w3 : World) (s room j root : Nat) (qs : Pairs) (N : List Nd) (a : Option Addr) (y : Nat) (kd : Int) (k x : Nat) (W : World) : Prop := Mi w3 s room j root qs N a W ∧ BoxA8 y kd k x W ∧ s < y
theorem tn_new8 (w : World) (room : Nat) (hr : room ≤ 1000000) (W : World) (hW : W = w.alloc (.cells #[.slice none 0 0, .int .i64 (room : Int)] 28)) : TrN w w.heap.size room 0 [] 8 [] W :=
  ⟨_, (tm_new w room hr W hW).1, TrI.zero, by simp, fun k hk => Nat.le_of_eq hk.symm, by rw [hW]; exact (KeptIn.refl _ w).alloc (fun _ h => h) _⟩

end Go.Proofs.Ytlnlgapjlekehaa
