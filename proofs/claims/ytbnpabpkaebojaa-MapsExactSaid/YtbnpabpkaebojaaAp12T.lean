import Derived.Test.YtbnpabpkaebojaaAw12T
import Derived.Test.YtbnpabpkaebojaaNums
import Derived.Test.YtbnpabpkaebojaaArgs
/- Layer 12: lists that a law keeps, several trees on one Shelf. -/
set_option linter.unusedVariables false
namespace Go.Proofs.Ytbnpabpkaebojaa
open Go.RowKit

/-- A list that a law keeps: newer than the Shelf. -/
def LsE (W : World) (s : Nat) (a : Option Addr) (es : Ents) : Prop := IsEs W a es ∧ ∀ p, a = some p → s < p.block ∧ p.block < W.heap.size
theorem LsE.fr {W W' : World} {s : Nat} {a : Option Addr} {es : Ents} (h : LsE W s a es) (hk : Fr8 s W W') : LsE W' s a es :=
  ⟨esAt h.1 hk fun p e => ⟨(h.2 p e).2, Nat.ne_of_gt (h.2 p e).1⟩, fun p e => ⟨(h.2 p e).1, Nat.lt_of_lt_of_le (h.2 p e).2 hk.size⟩⟩
theorem LsE.old {W W' : World} {s : Nat} {a : Option Addr} {es : Ents} (h : LsE W s a es) (hk : KeptIn (· < W.heap.size) W W') : LsE W' s a es := h.fr (fr8_of hk)
theorem LsE.cells {W : World} {s : Nat} {a : Option Addr} {es : Ents} (h : LsE W s a es) (hp : 0 < es.length) : ∃ b off, a = some ⟨b, off, none⟩ ∧ ∀ i, i < es.length → W.cell? ⟨b, off + i * 2, none⟩ = some (.int .i64 (atE es i).1) ∧ W.cell? ⟨b, off + i * 2 + 1, none⟩ = some (.int .i64 (atE es i).2) := by
  obtain ⟨b, off, e, _, hc⟩ := h.1.cells hp
  exact ⟨b, off, e, hc⟩

/-- List of a map. -/
theorem maListG {w0 w : World} {s room root f c : Nat} {qs : Pairs} (h : TrM w0 s room root qs f c w) (hg : GoodM qs) (hq : qs.length ≤ 1000) :
    Calls Try.prog 25 #[pgV s, .int .i64 (root : Int)] w fun e w' => ∃ a cap, e = .returned (.tuple #[.slice a qs.length cap, .int .i64 0]) ∧ LsE w' s a (esOf qs) ∧ KeptIn (· < w.heap.size) w w' := by
  have hsl := h.slt
  refine (maList h hq).mono fun e w' hR => ?_
  obtain ⟨-, v, rfl, hrow, hk⟩ := hR.resolve_right fun h => h.1 hg
  obtain ⟨a, cap, rfl, -, -⟩ := row_sliceE hrow
  refine ⟨a, cap, rfl, ⟨row_IsEs (by rw [esOf_length]; exact hrow), fun p e => ?_⟩, hk⟩
  rcases hrow.2 with ⟨e1, _⟩ | ⟨g, cap', cur, e1, hgg, hb, _⟩
  · simp only [Value.slice.injEq] at e1
    rw [e1.1] at e
    cases e
  · simp only [Value.slice.injEq] at e1
    rw [e1.1] at e
    cases e
    exact ⟨Nat.lt_of_lt_of_le hsl hgg, (Array.getElem?_eq_some_iff.1 hb).1⟩

/-- Another tree of the same Shelf. -/
theorem TrN.swap {w0 W : World} {s room root root' f f' : Nat} {qs qs' : Pairs} {N : List Nd} (h : TrN w0 s room root qs f N W) (ht : TrI N root' qs' f') : TrN w0 s room root' qs' f' N W := by
  obtain ⟨D, h1, h2, h3⟩ := h
  exact ⟨D, h1, ht, h3⟩
theorem TrN.tri {w0 W : World} {s room root f : Nat} {qs : Pairs} {N : List Nd} (h : TrN w0 s room root qs f N W) : TrI N root qs f := by
  obtain ⟨D, h1, h2, h3⟩ := h
  exact h2

/-- The place that a number picks. -/
def kOf (x : Int) : Nat := (wrap64 ((IntKind.u64.wrap x).tmod 64)).toNat
theorem kOf_spec (x : Int) : kOf x < 64 ∧ wrap64 ((IntKind.u64.wrap x).tmod 64) = (kOf x : Int) := by
  obtain ⟨k, h1, h2⟩ : ∃ k : Nat, k < 64 ∧ wrap64 ((IntKind.u64.wrap x).tmod 64) = (k : Int) := modWalk x 64 (by decide) (by decide)
  have : kOf x = k := by unfold kOf; rw [h2]; rfl
  rw [this]
  exact ⟨h1, h2⟩

theorem goodM_put {qs : Pairs} {k v : Nat} (h : GoodM qs) (hk : k < 64) (h1 : 1 ≤ v) (h2 : v ≤ 1023) : GoodM (chg [(k, v)] k qs) :=
  goodM_chg h fun p hp => by rw [List.mem_singleton.1 hp]; exact ⟨hk, h1, h2⟩
theorem goodM_drop {qs : Pairs} {k : Nat} (h : GoodM qs) : GoodM (chg [] k qs) := goodM_chg h goodM_nil
theorem srt_put {qs : Pairs} {k v : Nat} (h : Srt qs) : Srt (chg [(k, v)] k qs) := srt_chg h (List.pairwise_singleton _ _) fun p hp => by rw [List.mem_singleton.1 hp]
theorem srt_drp {qs : Pairs} {k : Nat} (h : Srt qs) : Srt (chg [] k qs) := srt_chg h .nil fun p hp => by cases hp
theorem len_put (k v : Nat) (qs : Pairs) : (chg [(k, v)] k qs).length ≤ qs.length + 1 := chg_len_le [(k, v)] k qs
theorem len_drp (k : Nat) (qs : Pairs) : (chg [] k qs).length ≤ qs.length := chg_len_le [] k qs

/-- A number that is counted up. -/
theorem ap_num (c j : Nat) (hc : c ≤ 100) (hj : j ≤ 100) : ∃ v : Nat, v = c + j ∧ wrap64 ((c : Int) + (j : Int)) = (v : Int) ∧ (c : Int) + (j : Int) = (v : Int) := by
  refine ⟨c + j, rfl, ?_, by omega⟩
  unfold wrap64
  omega

end Go.Proofs.Ytbnpabpkaebojaa
