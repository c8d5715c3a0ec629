/- Loops and cuts of a function with very many slots: what is forgotten is ONE function of the slots' numbers, not a variable for each. Of no program. -/
import Derived.Test.YtmfnapbahkonhaaKept
import Derived.Deep.Cut
import Derived.Deep.CutRange
import Derived.Deep.CutBlock
import Derived.Lib.Hide
import Derived.LoopTactic
set_option linter.unusedVariables false
namespace Go.Proofs.Ytmfnapbahkonhaa
open Go.RowKit

/-- A frame's slots, of which those that the mask tells (true) hold something: U. -/
def mixU (U : Nat → Value) : Nat → List Bool → List Value → List Value
  | i, b :: m, v :: r => cond b (U i) v :: mixU U (i + 1) m r
  | _, _, _ => []
theorem mixU_t (U : Nat → Value) (i : Nat) (m : List Bool) (v : Value) (r : List Value) : mixU U i (true :: m) (v :: r) = U i :: mixU U (i + 1) m r := rfl
theorem mixU_f (U : Nat → Value) (i : Nat) (m : List Bool) (v : Value) (r : List Value) : mixU U i (false :: m) (v :: r) = v :: mixU U (i + 1) m r := rfl
theorem mixU_n (U : Nat → Value) (i : Nat) : mixU U i [] [] = [] := rfl

def FrU (m : List Bool) (B : List Value) (ds : List Deferred) (R : (Nat → Value) → World → Prop) (a : Act) (w : World) : Prop := ∃ U, R U w ∧ a = ⟨(mixU U 0 m B).toArray, ds⟩
/-- Those of the slots that are kept. -/
def selU : List Bool → List Value → List Value
  | b :: m, v :: r => cond b (selU m r) (v :: selU m r)
  | _, _ => []
theorem mixU_of (U : Nat → Value) : ∀ (m : List Bool) (B L : List Value) (k : Nat), selU m L = selU m B → L.length = m.length → B.length = m.length → (∀ i, i < L.length → U (k + i) = L.getD i undef) → mixU U k m B = L
  | [], [], [], _, _, _, _, _ => rfl
  | true :: m, b :: B, l :: L, k, h, h1, h2, hU => by
    have h0 := hU 0 (by simp)
    rw [mixU_t, mixU_of U m B L (k + 1) h (by simpa using h1) (by simpa using h2) fun i hi => by
      have := hU (i + 1) (by simpa using hi)
      rw [show k + (i + 1) = k + 1 + i by omega] at this
      exact this]
    rw [Nat.add_zero] at h0
    rw [h0]
    rfl
  | false :: m, b :: B, l :: L, k, h, h1, h2, hU => by
    have h' : l :: selU m L = b :: selU m B := h
    rw [List.cons.injEq] at h'
    rw [mixU_f, mixU_of U m B L (k + 1) h'.2 (by simpa using h1) (by simpa using h2) fun i hi => by
      have := hU (i + 1) (by simpa using hi)
      rw [show k + (i + 1) = k + 1 + i by omega] at this
      exact this, h'.1]
  | [], b :: B, _, _, _, _, h2, _ => by simp at h2
  | [], [], l :: L, _, _, h1, _, _ => by simp at h1
  | b :: m, [], _, _, _, _, h2, _ => by simp at h2
  | b :: m, c :: B, [], _, _, h1, _, _ => by simp at h1
theorem mixU_arr {m : List Bool} {B : List Value} {a : Act} {ds : List Deferred} (h1 : selU m a.tmps.toList = selU m B) (h2 : a.tmps.toList.length = m.length) (h3 : B.length = m.length) (h4 : a.defers = ds) :
    a = ⟨(mixU (fun i => a.tmps.getD i undef) 0 m B).toArray, ds⟩ := by
  rw [mixU_of _ m B a.tmps.toList 0 h1 h2 h3 fun i hi => by
    rw [Nat.zero_add, List.getD_eq_getElem?_getD, Array.getElem?_toList]
    simp]
  cases a
  simp only at h4
  rw [h4]

theorem FrU.intro0 {m : List Bool} {B : List Value} {ds : List Deferred} {R : (Nat → Value) → World → Prop} {a : Act} {w : World} (h : R (fun i => a.tmps.getD i undef) w) (ha : a = ⟨(mixU (fun i => a.tmps.getD i undef) 0 m B).toArray, ds⟩) : FrU m B ds R a w := ⟨_, h, ha⟩

theorem FrU.intro {m : List Bool} {B : List Value} {ds : List Deferred} {R : (Nat → Value) → World → Prop} {a : Act} {w : World} (h : R (fun i => a.tmps.getD i undef) w) (h1 : selU m a.tmps.toList = selU m B ∧ a.tmps.toList.length = m.length ∧ B.length = m.length) (h4 : a.defers = ds) : FrU m B ds R a w :=
  ⟨_, h, mixU_arr h1.1 h1.2.1 h1.2.2 h4⟩

theorem least_of {p : Nat → Prop} (h : ∃ n, p n) : ∃ n, p n ∧ ∀ k, p k → n ≤ k := by
  obtain ⟨n, hn⟩ := h
  induction n using Nat.strongRecOn with
  | _ n ih =>
    by_cases h : ∃ k, k < n ∧ p k
    · obtain ⟨k, h1, h2⟩ := h
      exact ih k h1 h2
    · exact ⟨n, hn, fun k hk => Nat.le_of_not_lt fun h2 => h ⟨k, h2, hk⟩⟩

open Classical in
/-- A loop: R says how far it is (n, which falls), what the slots that are forgotten hold, and the world. -/
theorem wp_loopU {P : Program} {c : Code} {Q : Exit → Act → World → Prop} {B : List Value} {ds : List Deferred} {w : World} (m : List Bool) (R : Nat → (Nat → Value) → World → Prop) (n0 : Nat)
    (h0 : R n0 (fun i => (List.toArray B).getD i undef) w) (hlen : B.length = m.length)
    (round : ∀ m' B', Hid (m' = m ∧ B' = B) → ∀ n U w, R n U w → c.wp P (Exit.then (fun a' w' => ∃ n', n' < n ∧ FrU m' B' ds (R n') a' w') Q) ⟨(mixU U 0 m B).toArray, ds⟩ w) : (Code.loop c).wp P Q ⟨List.toArray B, ds⟩ w := by
  let I : Act → World → Prop := fun a w => ∃ n, FrU m B ds (R n) a w
  let μ : Act → World → Nat := fun a w => if h : I a w then Classical.choose (least_of h) else 0
  have hI : I ⟨List.toArray B, ds⟩ w := ⟨n0, _, h0, mixU_arr (a := ⟨List.toArray B, ds⟩) rfl hlen hlen rfl⟩
  refine wp_loop I μ hI fun a w h => ?_
  have hμ : μ a w = Classical.choose (least_of h) := dif_pos h
  obtain ⟨⟨U, hR, ha⟩, -⟩ := Classical.choose_spec (least_of h)
  have := round m B (Lib.hid ⟨rfl, rfl⟩) (Classical.choose (least_of h)) U w hR
  rw [← ha] at this
  refine wp_mono this ?_
  intro e a' w' hq
  cases e with
  | normal =>
    obtain ⟨n', hlt, hF⟩ := hq
    have hI' : I a' w' := ⟨n', hF⟩
    refine ⟨hI', ?_⟩
    rw [hμ, show μ a' w' = Classical.choose (least_of hI') from dif_pos hI']
    exact Nat.lt_of_le_of_lt ((Classical.choose_spec (least_of hI')).2 n' hF) hlt
  | exit id => exact hq
  | goto l => exact hq
  | ret => exact hq
  | panic ch => exact hq
  | outgrown => exact hq

/-- A cut around a statement. -/
theorem wp_cutU {P : Program} {s : Code} {K : Act → World → Prop} {Q' : Exit → Act → World → Prop} {B : List Value} {ds : List Deferred} {w : World} (m : List Bool) (R : (Nat → Value) → World → Prop)
    (rest : ∀ U w', R U w' → K ⟨(mixU U 0 m B).toArray, ds⟩ w')
    (first : ∀ m' B', Hid (m' = m ∧ B' = B) → ∀ (J K' : Act → World → Prop), (∀ a' w', FrU m' B' ds R a' w' → J a' w') → (∀ a' w', Met J a' w' → K' a' w') → s.wp P (Exit.then K' Q') ⟨List.toArray B, ds⟩ w) : s.wp P (Exit.then K Q') ⟨List.toArray B, ds⟩ w :=
  wp_cut (FrU m B ds R) (fun a' w' ⟨U, hR, ha⟩ => ha ▸ rest U w' hR) (first m B (Lib.hid ⟨rfl, rfl⟩))

end Go.Proofs.Ytmfnapbahkonhaa
