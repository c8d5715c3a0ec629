/- Order: the law's numbers and texts of a kind, the document's counts. -/
import Derived.Test.YtlldmebjgidbaaaDoorFo20
set_option linter.unusedVariables false
set_option linter.unusedSimpArgs false
namespace Go.Proofs.YtlldmebjgidbaaaDoor
open Go.RowKit

/-- How many numbers and texts each has: as the document lists them, two cells each. -/
def cntC : List Value := [.int .i64 0, .int .i64 0, .int .i64 2, .int .i64 0, .int .i64 1, .int .i64 0, .int .i64 2, .int .i64 0, .int .i64 2, .int .i64 0, .int .i64 1, .int .i64 0, .int .i64 1, .int .i64 0, .int .i64 3, .int .i64 0, .int .i64 2, .int .i64 1, .int .i64 3, .int .i64 0, .int .i64 0, .int .i64 0, .int .i64 1, .int .i64 0, .int .i64 0, .int .i64 0, .int .i64 0, .int .i64 0, .int .i64 1, .int .i64 0, .int .i64 0, .int .i64 3]
theorem cntC_at : ∀ k, k < 15 → cntC[2 * (k + 1)]? = some (.int .i64 (cn k : Int)) ∧ cntC[2 * (k + 1) + 1]? = some (.int .i64 (ct k : Int))
  | 0, _ | 1, _ | 2, _ | 3, _ | 4, _ | 5, _ | 6, _ | 7, _ | 8, _ | 9, _ | 10, _ | 11, _ | 12, _ | 13, _ | 14, _ => ⟨rfl, rfl⟩
  | n + 15, h => absurd h (by omega)

set_option maxRecDepth 1000000 in
theorem rCounts (w : World) : Calls Tryd.prog 34 #[] w fun e w' => e = .returned (.slice (some ⟨w.heap.size, 0, none⟩) 16 16) ∧ w'.heap[w.heap.size]? = some (.cells cntC.toArray 90 (0, 0)) ∧ KeptIn (· < w.heap.size) w w' := by
  go_enter Tryd.func34, Tryd.ntmps34
  go_wp2_with fail
  go_ret
  exact ⟨rfl, heap_alloc_new _ _, (KeptIn.refl _ _).alloc (fun _ h => h) _⟩

theorem cn_val : ∀ k, k < 15 → ∀ h, ([.int .i64 2, .int .i64 1, .int .i64 2, .int .i64 2, .int .i64 1, .int .i64 1, .int .i64 3, .int .i64 2, .int .i64 3, .int .i64 0, .int .i64 1, .int .i64 0, .int .i64 0, .int .i64 1, .int .i64 0] : List Value)[k]'h = .int .i64 (cn k : Int)
  | 0, _, _ | 1, _, _ | 2, _, _ | 3, _, _ | 4, _, _ | 5, _, _ | 6, _, _ | 7, _, _ | 8, _, _ | 9, _, _ | 10, _, _ | 11, _, _ | 12, _, _ | 13, _, _ | 14, _, _ => rfl
  | n + 15, h, _ => absurd h (by omega)
theorem ct_val : ∀ k, k < 15 → ∀ h, ([.int .i64 0, .int .i64 0, .int .i64 0, .int .i64 0, .int .i64 0, .int .i64 0, .int .i64 0, .int .i64 1, .int .i64 0, .int .i64 0, .int .i64 0, .int .i64 0, .int .i64 0, .int .i64 0, .int .i64 3] : List Value)[k]'h = .int .i64 (ct k : Int)
  | 0, _, _ | 1, _, _ | 2, _, _ | 3, _, _ | 4, _, _ | 5, _, _ | 6, _, _ | 7, _, _ | 8, _, _ | 9, _, _ | 10, _, _ | 11, _, _ | 12, _, _ | 13, _, _ | 14, _, _ => rfl
  | n + 15, h, _ => absurd h (by omega)
theorem mkO_take : ∀ k, k < 15 → ∀ a b c s t u, (mkO k a b c s t u).ns = [a, b, c].take (cn k) ∧ (mkO k a b c s t u).ts = [s, t, u].take (ct k)
  | 0, _, _, _, _, _, _, _ | 1, _, _, _, _, _, _, _ | 2, _, _, _, _, _, _, _ | 3, _, _, _, _, _, _, _ | 4, _, _, _, _, _, _, _ | 5, _, _, _, _, _, _, _ | 6, _, _, _, _, _, _, _ | 7, _, _, _, _, _, _, _ | 8, _, _, _, _, _, _, _ | 9, _, _, _, _, _, _, _ | 10, _, _, _, _, _, _, _ | 11, _, _, _, _, _, _, _ | 12, _, _, _, _, _, _, _ | 13, _, _, _, _, _, _, _ | 14, _, _, _, _, _, _, _ => ⟨rfl, rfl⟩
  | n + 15, h, _, _, _, _, _, _ => absurd h (by omega)

set_option maxRecDepth 1000000 in
theorem lNumbers (kind a b c : Int) (s t u : List UInt8) (w : World) : Calls Tryd.prog 6 #[.int .i64 kind, .int .i64 a, .int .i64 b, .int .i64 c] w fun e w' =>
    e = .returned (.slice (some ⟨w.heap.size + 1, 0, none⟩) (mkO (kd15 kind) a b c s t u).ns.length 3) ∧ RdN (some ⟨w.heap.size + 1, 0, none⟩) (mkO (kd15 kind) a b c s t u).ns w' ∧ KeptIn (· < w.heap.size) w w' := by
  obtain ⟨h1, h2, h3, h4⟩ := kd15_num kind
  have hlt := kd15_lt kind
  rw [(mkO_take _ hlt a b c s t u).1]
  have hv := cn_val _ hlt
  have hc := cn_ct _ hlt
  generalize kd15 kind = k at h1 h2 h3 h4 hlt hv hc
  generalize cn k = n at hv hc
  have g1 : (n : Int) ≤ 3 := by omega
  have g2 : (0 : Int) ≤ (n : Int) := by omega
  have g3 : n ≤ 3 := by omega
  have hl : ([a, b, c].take n).length = n := by simp; omega
  rw [hl]
  clear hc hl
  go_enter Tryd.func6, Tryd.ntmps6
  go_wp2_with fail
  go_ret
  refine ⟨rfl, ?_, ((KeptIn.refl _ w).alloc (fun _ h => h) _).alloc (fun _ h => h) _⟩
  intro j x hx
  refine ⟨_, rfl, ?_⟩
  unfold World.cell?
  rw [alloc2_new]
  rw [List.getElem?_take] at hx
  split at hx
  · match j, hx with
    | 0, hx | 1, hx | 2, hx => simp at hx; subst hx; rfl
    | j + 3, hx => simp at hx
  · cases hx
set_option maxRecDepth 1000000 in
theorem lTexts (kind a b c : Int) (s t u : List UInt8) (w : World) : Calls Tryd.prog 7 #[.int .i64 kind, .string ⟨s.toArray⟩, .string ⟨t.toArray⟩, .string ⟨u.toArray⟩] w fun e w' =>
    e = .returned (.slice (some ⟨w.heap.size + 1, 0, none⟩) (mkO (kd15 kind) a b c s t u).ts.length 3) ∧ RdT (some ⟨w.heap.size + 1, 0, none⟩) (mkO (kd15 kind) a b c s t u).ts w' ∧ KeptIn (· < w.heap.size) w w' := by
  obtain ⟨h1, h2, h3, h4⟩ := kd15_num kind
  have hlt := kd15_lt kind
  rw [(mkO_take _ hlt a b c s t u).2]
  have hv := ct_val _ hlt
  have hc := cn_ct _ hlt
  generalize kd15 kind = k at h1 h2 h3 h4 hlt hv hc
  generalize ct k = n at hv hc
  have g1 : (n : Int) ≤ 3 := by omega
  have g2 : (0 : Int) ≤ (n : Int) := by omega
  have g3 : n ≤ 3 := by omega
  have hl : ([s, t, u].take n).length = n := by simp; omega
  rw [hl]
  clear hc hl
  go_enter Tryd.func7, Tryd.ntmps7
  go_wp2_with fail
  go_ret
  refine ⟨rfl, ?_, ((KeptIn.refl _ w).alloc (fun _ h => h) _).alloc (fun _ h => h) _⟩
  intro j x hx
  refine ⟨_, rfl, ?_⟩
  unfold World.cell?
  rw [alloc2_new]
  rw [List.getElem?_take] at hx
  split at hx
  · match j, hx with
    | 0, hx | 1, hx | 2, hx => simp at hx; subst hx; rfl
    | j + 3, hx => simp at hx
  · cases hx
end Go.Proofs.YtlldmebjgidbaaaDoor
