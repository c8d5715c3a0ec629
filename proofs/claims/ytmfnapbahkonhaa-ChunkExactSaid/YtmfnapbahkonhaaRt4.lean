/- Rows of strings in memory; tierceref04.Text. -/
import Derived.Test.YtmfnapbahkonhaaDisc
import Derived.Test.YtmfnapbahkonhaaBytes
import Derived.OwnWalk
import Derived.Lib.Builder
import Derived.LoopTactic
import Derived.Deep.QuietTactic
import Derived.BigQuiet
set_option linter.unusedVariables false
namespace Go.Proofs.Ytmfnapbahkonhaa
open Go.RowKit

/-- A string of bytes as a value. -/
def strV (l : List UInt8) : Value := .string ⟨l.toArray⟩

/-- A row of one-cell values of the call's own, seen by a slice's value: its block, its cells. -/
theorem row_at {w : World} {B n : Nat} {T : TypeId} {v : Value} {xs : List Value} (h : w.ownsRow B T 1 v n xs) (hn : 0 < n) :
    ∃ g cap, v = .slice (some ⟨g, 0, none⟩) n cap ∧ B ≤ g ∧ g < w.heap.size ∧ n ≤ cap ∧ cap ≤ maxLen ∧ (∀ j u, xs[j]? = some u → w.cell? ⟨g, j, none⟩ = some u) ∧ ∀ j, w.frozen? ⟨g, j, none⟩ = false := by
  rcases h.2 with ⟨_, h0⟩ | ⟨g, cap, cur, rfl, hg, hb, hc, hm, hs, ht⟩
  · omega
  · refine ⟨g, cap, rfl, hg, (Array.getElem?_eq_some_iff.1 hb).1, hc, hm, fun j u hj => ?_, fun j => frozen_of_row w g j _ _ hb⟩
    rw [cell_of_row w g j _ _ _ hb]
    rw [← ht, List.getElem?_take] at hj
    split at hj
    · simpa using hj
    · cases hj

theorem row_shape {w : World} {B n : Nat} {T : TypeId} {v : Value} {xs : List Value} (h : w.ownsRow B T 1 v n xs) : ∃ a cap, v = .slice a n cap ∧ (n : Int) ≤ 9223372036854775807 := by
  rcases h.2 with ⟨rfl, h0⟩ | ⟨g, cap, cur, rfl, hg, hb, hc, hm, hs, ht⟩
  · exact ⟨none, 0, by rw [h0], by omega⟩
  · exact ⟨_, cap, rfl, by unfold maxLen at hm; omega⟩

theorem row_block {w w' : World} {B n : Nat} {T : TypeId} {v : Value} {xs : List Value} (h : w.ownsRow B T 1 v n xs) (hb : ∀ g, v.ownBlock = some g → w'.heap[g]? = w.heap[g]?) : w'.ownsRow B T 1 v n xs := by
  refine ⟨h.1, ?_⟩
  rcases h.2 with h1 | ⟨g, cap, cur, rfl, hg, hb', r⟩
  · exact .inl h1
  · exact .inr ⟨g, cap, cur, rfl, hg, (hb g rfl).trans hb', r⟩

/-- An element is stored. -/
theorem row_set {w : World} {B n g cap : Nat} {T : TypeId} {xs : List Value} (h : w.ownsRow B T 1 (.slice (some ⟨g, 0, none⟩) n cap) n xs) (j : Nat) (hj : j < n) (x : Value) :
    (w.setCell ⟨g, j, none⟩ x).ownsRow B T 1 (.slice (some ⟨g, 0, none⟩) n cap) n (xs.set j x) := by
  refine ⟨by simpa using h.1, ?_⟩
  rcases h.2 with ⟨h1, _⟩ | ⟨g', cap', cur, h1, hg, hb, hc, hm, hs, ht⟩
  · cases h1
  · simp only [Value.slice.injEq, Option.some.injEq, Addr.mk.injEq, and_true, true_and] at h1
    obtain ⟨rfl, rfl⟩ := h1
    refine .inr ⟨g, cap, cur.setIfInBounds j x, rfl, hg, heap_setCell_same _ _ _ _ _ _ hb, hc, hm, by simpa using hs, ?_⟩
    rw [← ht, Array.toList_setIfInBounds, List.take_set]

theorem row_ne {w : World} {B : Nat} {v : Value} {n k : Nat} {T T' : TypeId} {xs : List Value} {cs : Array Value} {fr : Nat × Nat} (h : w.ownsRow B T 1 v n xs) (hk : w.heap[k]? = some (.cells cs T' fr)) (ht : T' ≠ T) : v.ownBlock ≠ some k := Lib.ownBlock_ne h hk ht

/-- A part of a string. -/
theorem subB (s : List UInt8) (i j : Nat) (hi : i ≤ j) (hj : j ≤ s.length) : (⟨s.toArray⟩ : ByteArray).extract i j = ⟨((s.drop i).take (j - i)).toArray⟩ := by
  rw [Lib.extract_eq]

/-- The bytes of strings, one behind the other. -/
theorem flat_take_succ (xs : List (List UInt8)) (j : Nat) (h : j < xs.length) : (xs.take (j + 1)).flatten = (xs.take j).flatten ++ xs[j] := by
  rw [List.take_succ_eq_append_getElem h, List.flatten_append, List.flatten_cons, List.flatten_nil, List.append_nil]

set_option maxRecDepth 100000 in
theorem r4Text (a : Option Addr) (cap : Nat) (xs : List (List UInt8)) (w : World) (h : 0 < xs.length → ∃ g off, a = some ⟨g, off, none⟩ ∧ ∀ j x, xs[j]? = some x → w.cell? ⟨g, off + j, none⟩ = some (strV x)) (h16 : ∀ x ∈ xs, x.length = 16) (hn : xs.length ≤ 16384) :
    Calls Try.prog 25 #[.slice a xs.length cap] w fun e w' => e = .returned (.string ⟨xs.flatten.toArray⟩) ∧ w = w' := by
  obtain ⟨n, hN⟩ : ∃ n, xs.length = n := ⟨_, rfl⟩
  have H := Lib.hid h; have H16 := Lib.hid h16
  rw [hN] at H hn ⊢
  have HN := Lib.hid hN
  have hnn : (n : Int) ≤ 16384 := by omega
  obtain ⟨out, hout⟩ : ∃ o, xs.flatten = o := ⟨_, rfl⟩
  rw [hout]
  have HO := Lib.hid hout
  clear h h16 hN hout
  go_enter Try.func25, Try.ntmps25
  go_wp2_with fail
  go_loopw [3, 4] (fun s c wr => ∃ (j : Nat) (W : World), W = wr ∧ w = W ∧ j ≤ n ∧ c = .int .i64 j ∧ s = .string ⟨(xs.take j).flatten.toArray⟩) (fun _ c _ => n - (RowKit.intOf c).toNat)
  case atStart => exact ⟨0, w, rfl, rfl, Nat.zero_le _, rfl, rfl⟩
  case round =>
    obtain ⟨j, W, rfl, rfl, hj, rfl, rfl⟩ := hrel
    by_cases hlt : j < n
    · have i0 : (0 : Int) ≤ (j : Int) := by omega
      have i1 : (j : Int) < (n : Int) := by omega
      have hjx : j < xs.length := by rw [HN.out]; exact hlt
      obtain ⟨g, off, rfl, hc⟩ := H.out (by omega)
      have hcj := hc j xs[j] (List.getElem?_eq_getElem hjx)
      have hx16 : xs[j].length = 16 := H16.out _ (List.getElem_mem hjx)
      have hfl : (xs.take j).flatten.length = 16 * j := by rw [flat_length _ (fun x hx => H16.out x (List.mem_of_mem_take hx)), List.length_take]; omega
      have hstep := flat_take_succ xs j hjx
      obtain ⟨x, hx⟩ : ∃ x, xs[j] = x := ⟨_, rfl⟩
      obtain ⟨t, ht⟩ : ∃ t, (xs.take j).flatten = t := ⟨_, rfl⟩
      obtain ⟨t2, ht2⟩ : ∃ t, (xs.take (j + 1)).flatten = t := ⟨_, rfl⟩
      rw [hx] at hcj hx16 hstep
      rw [ht] at hfl hstep
      rw [ht2] at hstep
      rw [ht]
      unfold strV at hcj
      have HST : Hid ((⟨t.toArray⟩ : ByteArray) ++ ⟨x.toArray⟩ = ⟨(xs.take (j + 1)).flatten.toArray⟩) := Lib.hid (by rw [joinB, ht2, hstep])
      clear hc hx ht ht2 hstep hjx
      go_wp2
      go_roundw
      case rel => exact ⟨j + 1, _, rfl, rfl, by omega, by go_num, by rw [HST.out]⟩
      case measure => simp [RowKit.intOf]; omega
    · obtain rfl : j = n := by omega
      have HE : Hid ((xs.take j).flatten = out) := Lib.hid (by rw [← HO.out, List.take_of_length_le (by rw [HN.out]; exact Nat.le_refl _)])
      rw [HE.out]
      go_wp2
      go_ret
      exact ⟨rfl, rfl⟩

end Go.Proofs.Ytmfnapbahkonhaa
