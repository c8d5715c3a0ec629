import Derived.Test.YtdbohcdjamhdjaaSg9W
import Derived.Test.YtdbohcdjamhdjaaV6
import Derived.Test.YtdbohcdjamhdjaaArgs
/- Nodes that came in: a Shelf over them; roots that came in. -/
set_option linter.unusedVariables false
namespace Go.Proofs.Ytdbohcdjamhdjaa
open Go.RowKit

/-- A slice's address leads to these nodes. -/
def IsLvs9 (w : World) (a : Option Addr) (NA : List NdA) : Prop :=
  NA.length ≤ maxLen ∧ (0 < NA.length → ∃ b off, a = some ⟨b, off, none⟩ ∧ b < w.heap.size ∧ ∀ i (h : i < NA.length), ∃ a' cp, w.cell? ⟨b, off + i * 2, none⟩ = some (.int .i64 NA[i].1) ∧ w.cell? ⟨b, off + i * 2 + 1, none⟩ = some (.slice a' NA[i].2.length cp) ∧ IsPs w a' NA[i].2)
def IsNodes9 (w : World) (a : Option Addr) (len : Nat) : Prop := ∃ NA : List NdA, NA.length = len ∧ IsLvs9 w a NA
theorem IsLvs9.kept {w W : World} {a : Option Addr} {NA : List NdA} (h : IsLvs9 w a NA) (hk : KeptIn (· < w.heap.size) w W) : IsLvs9 W a NA := by
  refine ⟨h.1, fun h0 => ?_⟩
  obtain ⟨b, off, rfl, hb, hc⟩ := h.2 h0
  refine ⟨b, off, rfl, Nat.lt_of_lt_of_le hb hk.size, fun i hi => ?_⟩
  obtain ⟨a', cp, q1, q2, q3⟩ := hc i hi
  exact ⟨a', cp, (World.cell?_of_block (a := ⟨b, off + i * 2, none⟩) (hk.block b hb)).trans q1, (World.cell?_of_block (a := ⟨b, off + i * 2 + 1, none⟩) (hk.block b hb)).trans q2, q3.old hk⟩
/-- A Shelf in a box over nodes that came in. -/
theorem IsLvs9.shelf {w W : World} {a : Option Addr} {NA : List NdA} {cap : Nat} {r : Int} (h : IsLvs9 w a NA) (hW : w.alloc (.cells #[.slice a NA.length cap, .int .i64 r] 30) = W) (hl : NA.length ≤ 511) (hs : ∀ i (h : i < NA.length), NA[i].2.length ≤ 1000) :
    IsShA W w.heap.size (w.heap.size + 1) NA ∧ W.cell? ⟨w.heap.size, 0, none⟩ = some (.slice a NA.length cap) ∧ KeptIn (· < w.heap.size) w W := by
  have hk : KeptIn (· < w.heap.size) w W := by rw [← hW]; exact (KeptIn.refl _ w).alloc (fun _ h => h) _
  have hc : W.cell? ⟨w.heap.size, 0, none⟩ = some (.slice a NA.length cap) := by
    rw [← hW]
    have := heap_alloc_new w (.cells #[.slice a NA.length cap, .int .i64 r] 30)
    unfold World.cell?
    rw [this]
    rfl
  refine ⟨⟨Nat.lt_succ_self _, by rw [← hW, World.size_alloc]; exact Nat.le_refl _, hl, hs, a, cap, hc, fun h0 => ?_⟩, hc, hk⟩
  obtain ⟨b, off, rfl, hb, hq⟩ := h.2 h0
  refine ⟨b, off, rfl, by omega, fun i hi => ?_⟩
  obtain ⟨a', cp, q1, q2, q3⟩ := hq i hi
  refine ⟨a', cp, (World.cell?_of_block (a := ⟨b, off + i * 2, none⟩) (hk.block b hb)).trans q1, (World.cell?_of_block (a := ⟨b, off + i * 2 + 1, none⟩) (hk.block b hb)).trans q2, q3.old hk, fun hp z hz => ?_⟩
  obtain ⟨b2, o2, e, hb2, _⟩ := q3.cells hp
  rw [e] at hz
  cases hz
  exact Nat.lt_succ_of_lt hb2
/-- Roots that came in. -/
theorem isRow_ints {w : World} {a : Option Addr} {len cap : Nat} {zs : List Int} (h : IsRow .i64 w a len cap zs) : IntsL w a (zs.take len) ∧ (zs.take len).length = len ∧ ∀ r ∈ zs.take len, (Lit.int .i64 r).wf = true := by
  rcases h with ⟨rfl, rfl, rfl, rfl⟩ | ⟨x, rfl, h1, h2, h3, h4, h5⟩
  · exact ⟨⟨by simp, fun h => by simp at h⟩, by simp, fun r hr => by simp at hr⟩
  · have hl : (zs.take len).length = len := by rw [List.length_take]; omega
    refine ⟨⟨by omega, fun h0 => ?_⟩, hl, fun r hr => h5 r (List.mem_of_mem_take hr)⟩
    rw [hl] at h0
    obtain ⟨b, off, e, hb, hq⟩ := (show IsRow .i64 w (some x) len cap zs from .inr ⟨x, rfl, h1, h2, h3, h4, h5⟩).elem h0
    refine ⟨b, off, e, hb, fun i hi => ?_⟩
    rw [hl] at hi
    rw [(hq i hi).1, List.getD_eq_getElem?_getD, List.getD_eq_getElem?_getD, List.getElem?_take_of_lt hi]

/-- Cells of a row at an address that a slice has. -/
def RowX (W : World) (a : Option Addr) (xs : List Value) : Prop := ∀ (i : Nat) (u : Value), xs[i]? = some u → ∃ g, a = some ⟨g, 0, none⟩ ∧ g < W.heap.size ∧ W.cell? ⟨g, i, none⟩ = some u
theorem RowX.old {W W' : World} {a : Option Addr} {xs : List Value} (h : RowX W a xs) (hk : KeptIn (· < W.heap.size) W W') : RowX W' a xs := fun i u hu => by
  obtain ⟨g, e, hg, hc⟩ := h i u hu
  exact ⟨g, e, Nat.lt_of_lt_of_le hg hk.size, (World.cell?_of_block (a := ⟨g, i, none⟩) (hk.block g hg)).trans hc⟩
theorem rowX_of {W : World} {B n k : Nat} {T : TypeId} {v : Value} {xs : List Value} (h : W.ownsRow B T k v n xs) (hx : xs.length = n * k) : ∃ a cap, v = .slice a n cap ∧ RowX W a xs := by
  rcases h.2 with ⟨rfl, h0⟩ | ⟨g, cap, cur, rfl, hg, hc, h1, h2, h3, h4⟩
  · refine ⟨none, 0, by rw [h0], fun i u hu => ?_⟩
    rw [h0, Nat.zero_mul] at hx
    rw [List.length_eq_zero_iff.1 hx] at hu
    simp at hu
  · refine ⟨_, cap, rfl, fun i u hu => ⟨g, rfl, (Array.getElem?_eq_some_iff.1 hc).1, ?_⟩⟩
    rw [← h4, List.getElem?_take] at hu
    split at hu
    · simpa [World.cell?, hc] using hu
    · cases hu

end Go.Proofs.Ytdbohcdjamhdjaa
