/- The document's Deck (tierceref18): two rows of sectors in memory; Slots, Is, Get, Put. -/
import Derived.Test.YtmfnapbahkonhaaAp18
import Derived.Test.YtmfnapbahkonhaaZeros4
set_option linter.unusedVariables false
namespace Go.Proofs.Ytmfnapbahkonhaa
open Go.RowKit

def upN {α : Type} (f : Nat → α) (t : Nat) (v : α) : Nat → α := fun i => if i = t then v else f i
theorem upN_self {α : Type} (f : Nat → α) (t : Nat) (v : α) : upN f t v t = v := if_pos rfl
theorem upN_ne {α : Type} (f : Nat → α) (t : Nat) (v : α) (i : Nat) (h : i ≠ t) : upN f t v i = f i := if_neg h

/-- The document's Deck at block u: each tier's row V t holds the sectors F t. -/
structure IsU18 (B u sz : Nat) (V : Nat → Value) (F : Nat → List (List UInt8)) (W : World) : Prop where
  hu : W.heap[u]? = some (.cells #[V 0, V 1, .int .i64 sz] 57 (0, 0))
  hB : B ≤ u
  row : ∀ t, t < 2 → W.ownsRow B 9 1 (V t) (F t).length ((F t).map strV)
  ne : ∀ g, (V 0).ownBlock = some g → (V 1).ownBlock ≠ some g

/-- How many slots the document says that a tier has. -/
def slU (F : Nat → List (List UInt8)) (sz : Nat) (t : Int) : Int := if t = 0 then (min ((F 0).length / sz) 256 : Nat) else if t = 1 then (min ((F 1).length / sz) 256 : Nat) else 0
def isU (F : Nat → List (List UInt8)) (sz : Nat) (x : Sp) : Bool := decide (0 ≤ x.sl) && decide (x.sl < slU F sz x.ti)
/-- Sectors put into a row from p on. -/
def putF (X : List (List UInt8)) (p : Nat) (l : List UInt8) : Nat → List (List UInt8)
  | 0 => X
  | j + 1 => (putF X p l j).set (p + j) (nth l j)
theorem putF_length (X : List (List UInt8)) (p : Nat) (l : List UInt8) (j : Nat) : (putF X p l j).length = X.length := by
  induction j with
  | zero => rfl
  | succ j ih => rw [putF, List.length_set, ih]
theorem putF_now (S : List (List UInt8)) (M : Int → Option (List UInt8)) (p : Nat) (l : List UInt8) (j : Nat) : putF (flushed S M) p l j = flushed S (putN M (p : Int) l j) := by
  induction j with
  | zero => rfl
  | succ j ih =>
    rw [putF, ih, flushed_put, putN]
    rfl
theorem slU_eq {T : Nat → Dsk} {F : Nat → List (List UInt8)} {sz : Nat} (h : ∀ t, t < 2 → (F t).length = (T t).S.length) (t : Int) : slU F sz t = slI T sz t := by
  unfold slU slI slN
  rw [h 0 (by decide), h 1 (by decide)]
theorem isU_eq {T : Nat → Dsk} {F : Nat → List (List UInt8)} {sz : Nat} (h : ∀ t, t < 2 → (F t).length = (T t).S.length) (x : Sp) : isU F sz x = hasB T sz x := by
  unfold isU hasB
  rw [slU_eq h]

section
variable {B u sz : Nat} {V : Nat → Value} {F : Nat → List (List UInt8)} {W W' : World}
theorem IsU18.lt (h : IsU18 B u sz V F W) : u < W.heap.size := (Array.getElem?_eq_some_iff.1 h.hu).1
theorem IsU18.nb (h : IsU18 B u sz V F W) {t : Nat} (ht : t < 2) : (V t).ownBlock ≠ some u := row_ne (h.row t ht) h.hu (by decide)
theorem IsU18.kept {X : Nat → Prop} (h : IsU18 B u sz V F W) (hk : KeptIn X W W') (h1 : X u) (h2 : ∀ t, t < 2 → ∀ g, (V t).ownBlock = some g → X g) : IsU18 B u sz V F W' :=
  ⟨(hk.block u h1).trans h.hu, h.hB, fun t ht => rowA_block (h.row t ht) fun g e => hk.block g (h2 t ht g e), h.ne⟩
theorem IsU18.old (h : IsU18 B u sz V F W) (hk : KeptIn (· < W.heap.size) W W') : IsU18 B u sz V F W' :=
  h.kept hk h.lt fun t ht g e => (rowA_at (h.row t ht) g e).2.1
theorem IsU18.cv (h : IsU18 B u sz V F W) {t : Nat} (ht : t < 2) : W.cell? ⟨u, t, none⟩ = some (V t) := by
  rcases (by omega : t = 0 ∨ t = 1) with rfl | rfl
  · exact (cell_of_row _ _ 0 _ _ _ h.hu).trans rfl
  · exact (cell_of_row _ _ 1 _ _ _ h.hu).trans rfl
theorem IsU18.cz (h : IsU18 B u sz V F W) : W.cell? ⟨u, 2, none⟩ = some (.int .i64 sz) := (cell_of_row _ _ 2 _ _ _ h.hu).trans rfl
theorem IsU18.fz (h : IsU18 B u sz V F W) (i : Nat) : W.frozen? ⟨u, i, none⟩ = false := frozen_of_row _ _ _ _ _ h.hu
theorem IsU18.shape (h : IsU18 B u sz V F W) {t : Nat} (ht : t < 2) : ∃ a cap, V t = .slice a (F t).length cap ∧ ((F t).length : Int) ≤ 9223372036854775807 := row_shape (h.row t ht)
/-- A sector of a row. -/
theorem IsU18.cells (h : IsU18 B u sz V F W) {t : Nat} (ht : t < 2) (hn : 0 < (F t).length) : ∃ g cap, V t = .slice (some ⟨g, 0, none⟩) (F t).length cap ∧ (V t).ownBlock = some g ∧ (∀ j x, (F t)[j]? = some x → W.cell? ⟨g, j, none⟩ = some (.string ⟨x.toArray⟩)) ∧ ∀ j, W.frozen? ⟨g, j, none⟩ = false := by
  obtain ⟨g, cap, e, _, _, h3, h4⟩ := rowA_cells (h.row t ht) hn
  exact ⟨g, cap, e, by rw [e]; rfl, fun j x hj => h3 j (strV x) (by rw [List.getElem?_map, hj]; rfl), h4⟩
/-- The other row is another one. -/
theorem IsU18.two (h : IsU18 B u sz V F W) {t i : Nat} (ht : t < 2) (hi : i < 2) (hn : i ≠ t) (g : Nat) (e : (V t).ownBlock = some g) : (V i).ownBlock ≠ some g := by
  rcases (by omega : t = 0 ∧ i = 1 ∨ t = 1 ∧ i = 0) with ⟨rfl, rfl⟩ | ⟨rfl, rfl⟩
  · exact h.ne g e
  · exact fun e2 => h.ne g e2 e
/-- A sector is stored. -/
theorem IsU18.set (h : IsU18 B u sz V F W) {t : Nat} (ht : t < 2) {g : Nat} (hv : (V t).ownBlock = some g) (j : Nat) (hj : j < (F t).length) (x : List UInt8) :
    IsU18 B u sz V (upN F t ((F t).set j x)) (W.setCell ⟨g, j, none⟩ (.string ⟨x.toArray⟩)) := by
  have hk : KeptIn (· ≠ g) W (W.setCell ⟨g, j, none⟩ (.string ⟨x.toArray⟩)) := (KeptIn.refl _ W).setCell (by simp) _
  refine ⟨(hk.block u fun e => h.nb ht (by rw [hv, e])).trans h.hu, h.hB, fun i hi => ?_, h.ne⟩
  by_cases e : i = t
  · subst e
    rw [upN_self]
    rcases (h.row i hi).2 with ⟨h1, _⟩ | ⟨g', cap', cur, h1, _, _⟩
    · rw [h1] at hv; cases hv
    · have hr := h.row i hi
      rw [h1] at hv hr ⊢
      obtain rfl : g' = g := by simpa [Value.ownBlock] using hv
      have := row_set hr j hj (strV x)
      rw [List.length_set, List.map_set]
      exact this
  · rw [upN_ne _ _ _ _ e]
    exact rowA_block (h.row i hi) fun g2 e2 => hk.block g2 fun e3 => h.two ht hi e g hv (by rw [e2, e3])
end

attribute [local go_sem high] run_max2 run_min2

set_option maxRecDepth 100000 in
theorem r18Slots {B u sz : Nat} {V : Nat → Value} {F : Nat → List (List UInt8)} {w : World} (h : IsU18 B u sz V F w) (hs : 1 ≤ sz) (hs8 : sz ≤ 8) (t : Int) :
    Calls Try.prog 28 #[.pointer (some ⟨u, 0, none⟩), .int .i64 t] w fun e w' => e = .returned (.int .i64 (slU F sz t)) ∧ KeptIn (· < w.heap.size) w w' := by
  obtain ⟨r, hr⟩ : ∃ r, slU F sz t = r := ⟨_, rfl⟩
  rw [hr]
  by_cases h01 : t = 0 ∨ t = 1
  · obtain ⟨n, rfl, hn⟩ : ∃ n : Nat, t = (n : Int) ∧ n < 2 := by
      rcases h01 with rfl | rfl
      · exact ⟨0, rfl, by decide⟩
      · exact ⟨1, rfl, by decide⟩
    have c0 := h.cv hn
    have cz := h.cz
    obtain ⟨a, cap, hv, hlen⟩ := h.shape hn
    rw [hv] at c0
    have hr2 : ((min ((F n).length / sz) 256 : Nat) : Int) = r := by
      rw [← hr]
      unfold slU
      rcases (by omega : n = 0 ∨ n = 1) with rfl | rfl
      · exact (if_pos rfl).symm
      · exact ((if_neg (by decide)).trans (if_pos rfl)).symm
    obtain ⟨l, hl⟩ : ∃ l, (F n).length = l := ⟨_, rfl⟩
    rw [hl] at c0 hlen hr2
    have hle := Nat.div_le_self l sz
    obtain ⟨q, hq⟩ : ∃ q, l / sz = q := ⟨_, rfl⟩
    have hd : (l : Int).tdiv (sz : Int) = (q : Int) := by rw [Int.tdiv_eq_ediv_of_nonneg (by omega), ← hq]; simp
    have hqw : IntKind.i64.wrap (q : Int) = (q : Int) := by rw [IntKind.wrap_i64]; omega
    have hm : min (q : Int) 256 = r := by rw [← hr2, hq]; omega
    have tz : ¬ (sz : Int) = 0 := by omega
    have tzn : ¬ sz = 0 := by omega
    have n0 : (0 : Int) ≤ (n : Int) := by omega
    have n1 : (n : Int) < 2 := by omega
    rcases (by omega : n = 0 ∨ n = 1) with rfl | rfl
    · clear h hr hv hl hle hq hr2 h01 hn hs hs8
      go_enter Try.func28, Try.ntmps28
      go_wp2_with fail
      go_quiet (fail)
      go_wp2
      go_ret
      exact ⟨rfl, (KeptIn.refl _ _).drewN _⟩
    · clear h hr hv hl hle hq hr2 h01 hn hs hs8
      go_enter Try.func28, Try.ntmps28
      go_wp2_with fail
      go_quiet (fail)
      go_wp2
      go_ret
      exact ⟨rfl, (KeptIn.refl _ _).drewN _⟩
  · have e0 : (t == 0) = false := beq_eq_false_iff_ne.2 fun e => h01 (.inl e)
    have e1 : (t == 1) = false := beq_eq_false_iff_ne.2 fun e => h01 (.inr e)
    have f0 : (t != 0) = true := by simp [show ¬ t = 0 from fun e => h01 (.inl e)]
    have f1 : (t != 1) = true := by simp [show ¬ t = 1 from fun e => h01 (.inr e)]
    obtain rfl : (0 : Int) = r := by rw [← hr]; unfold slU; rw [if_neg fun e => h01 (.inl e), if_neg fun e => h01 (.inr e)]
    clear h hr h01
    go_enter Try.func28, Try.ntmps28
    go_wp2
    go_ret
    exact ⟨rfl, KeptIn.refl _ _⟩

theorem r18Is {B u sz : Nat} {V : Nat → Value} {F : Nat → List (List UInt8)} {w : World} (h : IsU18 B u sz V F w) (hs : 1 ≤ sz) (hs8 : sz ≤ 8) (x : Sp) :
    Calls Try.prog 12 #[.pointer (some ⟨u, 0, none⟩), .int .i64 x.ti, .int .i64 x.sl] w fun e w' => e = .returned (.bool (isU F sz x)) ∧ KeptIn (· < w.heap.size) w w' := by
  obtain ⟨t, s⟩ := x
  simp only
  obtain ⟨r, hr⟩ : ∃ r, isU F sz ⟨t, s⟩ = r := ⟨_, rfl⟩
  rw [hr]
  obtain ⟨n, hn⟩ : ∃ n, slU F sz t = n := ⟨_, rfl⟩
  have hc := r18Slots h hs hs8 t
  rw [hn] at hc
  have HC := Lib.hid hc
  have HR : Hid ((decide (0 ≤ s) && decide (s < n)) = r) := Lib.hid (by rw [← hr, isU, hn])
  clear h hs hs8 hr hn hc
  by_cases h0 : 0 ≤ s
  · have e0 : decide (0 ≤ s) = true := by simpa using h0
    go_enter Try.func12, Try.ntmps12
    go_wp2_with (go_at_call 28; refine HC.out.mono ?_)
    rintro e w1 ⟨rfl, hk⟩
    have HK := Lib.hid hk
    clear hk
    go_wp2
    go_ret
    refine ⟨?_, HK.out⟩
    rw [← HR.out, e0]
    rfl
  · have e0 : decide (0 ≤ s) = false := by simpa using h0
    have e1 : s < 0 := by omega
    go_enter Try.func12, Try.ntmps12
    go_wp2
    go_ret
    refine ⟨?_, KeptIn.refl _ _⟩
    rw [← HR.out, e0]
    rfl

end Go.Proofs.Ytmfnapbahkonhaa
