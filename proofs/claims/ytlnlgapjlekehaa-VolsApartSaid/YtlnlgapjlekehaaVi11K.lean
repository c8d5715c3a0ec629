import Derived.Test.YtlnlgapjlekehaaVnK
import Derived.Test.YtlnlgapjlekehaaRp8K
import Derived.Test.YtlnlgapjlekehaaAw11K
/- VolsList of layer 11: what stands between its deeds. -/
set_option linter.unusedVariables false
namespace Go.Proofs.Ytlnlgapjlekehaa
open Go.RowKit

/-- A slice of deeds that came in: it has no element; or it leads to its elements' cells. -/
def IsActs11 (w : World) (a : Option Addr) (len : Nat) : Prop :=
  len = 0 ∨ ∃ b off, a = some ⟨b, off, none⟩ ∧ b < w.heap.size ∧ len ≤ maxLen ∧ ∀ i, i < len → ∃ (kd id size root : Int) (pin : Bool) (frm : Int) (k x : Nat), (Lit.int .i64 kd).wf = true ∧ (Lit.int .i64 id).wf = true ∧ k < 18446744073709551616 ∧ x < 18446744073709551616 ∧
    w.cell? ⟨b, off + i * 8, none⟩ = some (.int .i64 kd) ∧ w.cell? ⟨b, off + i * 8 + 1, none⟩ = some (.int .i64 id) ∧ w.cell? ⟨b, off + i * 8 + 2, none⟩ = some (.int .i64 size) ∧ w.cell? ⟨b, off + i * 8 + 3, none⟩ = some (.int .i64 root) ∧ w.cell? ⟨b, off + i * 8 + 4, none⟩ = some (.bool pin) ∧ w.cell? ⟨b, off + i * 8 + 5, none⟩ = some (.int .i64 frm) ∧ w.cell? ⟨b, off + i * 8 + 6, none⟩ = some (.int .u64 (k : Int)) ∧ w.cell? ⟨b, off + i * 8 + 7, none⟩ = some (.int .u64 (x : Int))
theorem IsActs11.len_le {w : World} {a : Option Addr} {len : Nat} (h : IsActs11 w a len) : len ≤ maxLen := by
  rcases h with rfl | ⟨b, off, _, _, h, _⟩
  · exact Nat.zero_le _
  · exact h

theorem IsVs.old {W W' : World} {a : Option Addr} {vs : List Vol} (h : IsVs W a vs) (hk : KeptIn (· < W.heap.size) W W') : IsVs W' a vs :=
  ⟨h.len, fun hp => by
    obtain ⟨b, off, e, hb, hc⟩ := h.cells hp
    exact (vsAt h hk fun p e' => by rw [e] at e'; cases e'; exact hb).cells hp⟩

/-- What stands between the deeds: the tree, and the document's row of pairs. -/
structure Vi (w3 : World) (s j root : Nat) (qs : Pairs) (N : List Nd) (a : Option Addr) (W : World) : Prop where
  tr : TrN w3 s 511 root qs (8 + j) N W
  ps : IsPs W a qs
  blk : ∀ p, a = some p → s < p.block ∧ p.block < W.heap.size
  ln : qs.length ≤ j

theorem Vi.old {w3 W W' : World} {s j root : Nat} {qs : Pairs} {N : List Nd} {a : Option Addr} (h : Vi w3 s j root qs N a W) (hk : KeptIn (· < W.heap.size) W W') : Vi w3 s j root qs N a W' :=
  ⟨h.tr.old hk, h.ps.old hk, fun p e => ⟨(h.blk p e).1, Nat.lt_of_lt_of_le (h.blk p e).2 hk.size⟩, h.ln⟩
theorem TrN.kw {w3 W : World} {s room root f : Nat} {qs : Pairs} {N : List Nd} (h : TrN w3 s room root qs f N W) : KeptIn (· < w3.heap.size) w3 W := by
  obtain ⟨D, h1, h2, h3, h4, h5⟩ := h
  exact h5
theorem TrN.srt {w3 W : World} {s room root f : Nat} {qs : Pairs} {N : List Nd} (h : TrN w3 s room root qs f N W) : Srt qs := by
  obtain ⟨D, h1, h2, h3, h4, h5⟩ := h
  exact h2.srt
theorem Vi.next {w3 W w' W9 : World} {s j root r cap n : Nat} {qs out : Pairs} {N M : List Nd} {a a' : Option Addr} (h : Vi w3 s j root qs N a W) (ht : TrN w3 s 511 r out (8 + (j + 1)) (N ++ M) w')
    (hrow : W9.ownsRow w'.heap.size 38 2 (.slice a' n cap) out.length (cellsP out)) (hn : n = out.length) (hk : KeptIn (· < w'.heap.size) w' W9) (hf : Fits out) (hl : out.length ≤ qs.length + 1) (hs : s < w'.heap.size) : Vi w3 s (j + 1) r out (N ++ M) a' W9 := by
  subst hn
  refine ⟨ht.old hk, row_IsPs hrow hf, fun p e => ?_, by have := h.ln; omega⟩
  rcases hrow.2 with ⟨e1, _⟩ | ⟨g, cap', cur, e1, hg, hb, _⟩
  · simp only [Value.slice.injEq] at e1
    rw [e1.1] at e
    cases e
  · simp only [Value.slice.injEq] at e1
    rw [e1.1] at e
    cases e
    exact ⟨Nat.lt_of_lt_of_le hs hg, (Array.getElem?_eq_some_iff.1 hb).1⟩
theorem Vi.mono {w3 W : World} {s j root : Nat} {qs : Pairs} {N : List Nd} {a : Option Addr} (h : Vi w3 s j root qs N a W) : Vi w3 s (j + 1) root qs N a W := by
  obtain ⟨⟨D, h1, h2, h3⟩, h4, h5, h6⟩ := h
  exact ⟨⟨D, h1, h2.mono (by omega), h3⟩, h4, h5, Nat.le_succ_of_le h6⟩
theorem drop_keys (id : Int) : ∃ k : Nat, IntKind.u64.wrap (4294967296 + id) = (k : Int) ∧ IntKind.u64.wrap (4294967296 + IntKind.u64.wrap id) = (k : Int) ∧ k < 18446744073709551616 := by
  have h : IntKind.u64.wrap (4294967296 + id) = (4294967296 + id) % 18446744073709551616 := IntKind.wrap_u64 _
  have h2 : IntKind.u64.wrap (4294967296 + IntKind.u64.wrap id) = (4294967296 + id) % 18446744073709551616 := by
    simp only [IntKind.wrap_u64]
    omega
  refine ⟨((4294967296 + id) % 18446744073709551616).toNat, ?_, ?_, by omega⟩
  · rw [h]; omega
  · rw [h2]; omega
theorem chg_len_le11 (xs : Pairs) (k : Nat) (qs : Pairs) (n : Nat) (h : xs.length ≤ n) : (chg xs k qs).length ≤ qs.length + n := by
  have := chg_len2 xs k qs
  omega
theorem Vi.ps' {w3 W w' : World} {s j root : Nat} {qs : Pairs} {N : List Nd} {a : Option Addr} (h : Vi w3 s j root qs N a W) (hfr : Fr8 s W w') : IsPs w' a qs :=
  psAt h.ps hfr fun p e => ⟨(h.blk p e).2, Nat.ne_of_gt (h.blk p e).1⟩
theorem TrN.slt {w3 W : World} {s room root f : Nat} {qs : Pairs} {N : List Nd} (h : TrN w3 s room root qs f N W) : s < W.heap.size := by
  obtain ⟨D, h1, _⟩ := h
  exact h1.lt s h1.ds

theorem fits_chg {qs : Pairs} {k v : Nat} (h : Fits qs) (hk : k < 18446744073709551616) (hv : v < 18446744073709551616) : Fits (chg [(k, v)] k qs) := by
  intro p hp
  unfold chg at hp
  rcases List.mem_append.1 hp with hp | hp
  · rcases List.mem_append.1 hp with hp | hp
    · exact h p ((List.mem_filter.1 hp).1)
    · rw [List.mem_singleton.1 hp]
      exact ⟨hk, hv⟩
  · exact h p ((List.mem_filter.1 hp).1)
theorem fits_drp {qs : Pairs} {k : Nat} (h : Fits qs) : Fits (drp k qs) := fun p hp => h p ((List.mem_filter.1 hp).1)

theorem drp_lt {qs : Pairs} {k : Nat} : decide ((drp k qs).length < qs.length) = true ↔ ∃ v, (k, v) ∈ qs := by
  rw [decide_eq_true_iff]
  unfold drp
  induction qs with
  | nil => simp
  | cons p r ih =>
    rw [List.filter_cons]
    by_cases hp : p.1 = k
    · rw [if_neg (by simpa using hp)]
      have := List.length_filter_le (fun p : Nat × Nat => decide (p.1 ≠ k)) r
      rw [List.length_cons]
      refine ⟨fun _ => ⟨p.2, ?_⟩, fun _ => by omega⟩
      rw [← hp]
      exact List.mem_cons_self
    · rw [if_pos (by simpa using hp), List.length_cons, List.length_cons]
      rw [Nat.add_lt_add_iff_right, ih]
      constructor
      · rintro ⟨v, hv⟩
        exact ⟨v, List.mem_cons_of_mem _ hv⟩
      · rintro ⟨v, hv⟩
        rcases List.mem_cons.1 hv with e | e
        · exact absurd (by rw [← e]) hp
        · exact ⟨v, e⟩

/-- A deed, boxed. -/
def BoxA11 (y : Nat) (kd : Int) (v : Vol) (k x : Nat) (W : World) : Prop := W.heap[y]? = some (.cells #[.int .i64 kd, .int .i64 v.id, .int .i64 v.size, .int .i64 v.root, .bool v.pin, .int .i64 v.frm, .int .u64 (k : Int), .int .u64 (x : Int)] 70 (0, 0))
section
variable {y k x : Nat} {kd : Int} {v : Vol} {W W' : World}
theorem BoxA11.c0 (h : BoxA11 y kd v k x W) : W.cell? ⟨y, 0, none⟩ = some (.int .i64 kd) := by simp [World.cell?, show W.heap[y]? = _ from h]
theorem BoxA11.c1 (h : BoxA11 y kd v k x W) : W.cell? ⟨y, 1, none⟩ = some (.int .i64 v.id) := by simp [World.cell?, show W.heap[y]? = _ from h]
theorem BoxA11.c2 (h : BoxA11 y kd v k x W) : W.cell? ⟨y, 2, none⟩ = some (.int .i64 v.size) := by simp [World.cell?, show W.heap[y]? = _ from h]
theorem BoxA11.c3 (h : BoxA11 y kd v k x W) : W.cell? ⟨y, 3, none⟩ = some (.int .i64 v.root) := by simp [World.cell?, show W.heap[y]? = _ from h]
theorem BoxA11.c4 (h : BoxA11 y kd v k x W) : W.cell? ⟨y, 4, none⟩ = some (.bool v.pin) := by simp [World.cell?, show W.heap[y]? = _ from h]
theorem BoxA11.c5 (h : BoxA11 y kd v k x W) : W.cell? ⟨y, 5, none⟩ = some (.int .i64 v.frm) := by simp [World.cell?, show W.heap[y]? = _ from h]
theorem BoxA11.c6 (h : BoxA11 y kd v k x W) : W.cell? ⟨y, 6, none⟩ = some (.int .u64 (k : Int)) := by simp [World.cell?, show W.heap[y]? = _ from h]
theorem BoxA11.c7 (h : BoxA11 y kd v k x W) : W.cell? ⟨y, 7, none⟩ = some (.int .u64 (x : Int)) := by simp [World.cell?, show W.heap[y]? = _ from h]
theorem BoxA11.lt (h : BoxA11 y kd v k x W) : y < W.heap.size := (Array.getElem?_eq_some_iff.1 h).1
theorem BoxA11.kept {X : Nat → Prop} (h : BoxA11 y kd v k x W) (hk : KeptIn X W W') (hX : X y) : BoxA11 y kd v k x W' := (hk.block y hX).trans h
end

/-- What stands within a deed. -/
def Vd (w3 : World) (s j root : Nat) (qs : Pairs) (N : List Nd) (a : Option Addr) (y : Nat) (kd : Int) (v : Vol) (k x : Nat) (W : World) : Prop := Vi w3 s j root qs N a W ∧ BoxA11 y kd v k x W ∧ s < y
theorem Vd.old {w3 W W' : World} {s j root y k x : Nat} {kd : Int} {v : Vol} {qs : Pairs} {N : List Nd} {a : Option Addr} (h : Vd w3 s j root qs N a y kd v k x W) (hk : KeptIn (· < W.heap.size) W W') : Vd w3 s j root qs N a y kd v k x W' :=
  ⟨h.1.old hk, h.2.1.kept hk h.2.1.lt, h.2.2⟩

end Go.Proofs.Ytlnlgapjlekehaa
