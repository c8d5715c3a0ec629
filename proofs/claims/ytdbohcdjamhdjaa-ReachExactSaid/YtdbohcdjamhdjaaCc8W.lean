import Derived.Test.YtdbohcdjamhdjaaV6
import Derived.Lib.AppendZeros
import Derived.Laws.AppendOwnNone
/- slices.Grow and slices.Concat at rows of pairs; a step's with. -/
set_option linter.unusedVariables false
namespace Go.Proofs.Ytdbohcdjamhdjaa
open Go.RowKit

/-- A row of pairs of a call's own. -/
def CatS (w : World) (qs : Pairs) (e : Ending) (w' : World) : Prop :=
  ∃ v, e = .returned v ∧ w'.ownsRow w.heap.size 82 2 v qs.length (cellsP qs) ∧ KeptIn (· < w.heap.size) w w'

set_option maxRecDepth 100000 in
theorem pGrow (n : Nat) (hn : n ≤ 100000) (w : World) : Calls Try.prog 90 #[.slice none 0 0, .int .i64 (n : Int)] w (CatS w []) := by
  obtain ⟨i, hi, hz0, hz1, hz2⟩ := info_parts infoPair
  have n0 : ¬ ((n : Int) < 0) := by omega
  rcases Nat.eq_zero_or_pos n with h0 | h0
  · subst h0
    go_enter Try.func90, Try.ntmps90
    go_wp2_with fail
    go_ret
    exact ⟨_, rfl, ⟨rfl, .inl ⟨rfl, rfl⟩⟩, KeptIn.refl _ _⟩
  · have n1 : (0 : Int) < (n : Int) := by omega
    have n2 : wrap64 (n : Int) = (n : Int) := by unfold wrap64; omega
    have hr := Lib.run_append_nil_zeros (P := Try.prog) w 25 3 25 82 i _ .i64 .i64 Try.underlying25 Try.underlying3 hi hz0 n h0 (by omega) (by omega) (by rw [hz2]; omega)
    obtain ⟨cap, hcap⟩ : ∃ cap, grownCap w n 0 82 = cap := ⟨_, rfl⟩
    have hc1 : n ≤ cap := by rw [← hcap]; exact grownCap_ge ..
    have hc2 : cap ≤ maxLen := by rw [← hcap]; exact grownCap_le_maxLen _ _ _ _ (by unfold maxLen; omega)
    rw [hcap] at hr
    obtain ⟨cs, hcs⟩ : ∃ cs, Builtin.zeroCells (Value.agg #[.int .u64 0, .int .u64 0]).cells n ++ Builtin.zeroCells (Value.agg #[.int .u64 0, .int .u64 0]).cells (cap - n) = cs := ⟨_, rfl⟩
    rw [hcs] at hr
    have hsz : cs.size = cap * 2 := by
      rw [← hcs]
      simp only [Array.size_append, Builtin.zeroCells]
      simp [Value.cells]
      omega
    have HR := Lib.hid hr
    clear hr hcs hcap
    have hcap0 : ¬ (cap < 0) := by omega
    go_enter Try.func90, Try.ntmps90
    go_wp2_with (at_builtin; refine Lib.wpList_append_run _ rfl _ _ _ _ rfl _ _ rfl rfl _ _ HR.out ?_)
    go_ret
    refine ⟨_, rfl, ⟨rfl, .inr ⟨w.heap.size, cap, cs, rfl, Nat.le_refl _, heap_alloc_new _ _, Nat.zero_le _, hc2, hsz, rfl⟩⟩, (KeptIn.refl _ w).drew.alloc (fun _ h => h) _⟩

/-- Three rows of pairs in a row of slices. -/
def P3 (W : World) (b : Nat) (A : Nat → Option Addr) (C : Nat → Nat) (P : Nat → Pairs) : Prop := b < W.heap.size ∧ ∀ i, i < 3 → W.cell? ⟨b, i, none⟩ = some (.slice (A i) (P i).length (C i)) ∧ IsPs W (A i) (P i) ∧ (P i).length ≤ 1000 ∧ ((P i).length = 0 → A i = none ∧ C i = 0 ∨ ∃ g off, A i = some ⟨g, off, none⟩)
theorem P3.old {W W' : World} {b : Nat} {A : Nat → Option Addr} {C : Nat → Nat} {P : Nat → Pairs} (h : P3 W b A C P) (hk : KeptIn (· < W.heap.size) W W') : P3 W' b A C P :=
  ⟨Nat.lt_of_lt_of_le h.1 hk.size, fun i hi => ⟨(World.cell?_of_block (a := ⟨b, i, none⟩) (hk.block b h.1)).trans (h.2 i hi).1, (h.2 i hi).2.1.old hk, (h.2 i hi).2.2⟩⟩
def catP (P : Nat → Pairs) (j : Nat) : Pairs := ((List.range j).map P).flatten
theorem catP_succ (P : Nat → Pairs) (j : Nat) : catP P (j + 1) = catP P j ++ P j := by simp [catP, List.range_succ]
theorem catP_le (P : Nat → Pairs) (h : ∀ i, i < 3 → (P i).length ≤ 1000) : ∀ j, j ≤ 3 → (catP P j).length ≤ 1000 * j := by
  intro j hj
  induction j with
  | zero => simp [catP]
  | succ j ih =>
    rw [catP_succ, List.length_append]
    have := ih (by omega)
    have := h j (by omega)
    omega
theorem cc_nums (s m t : Nat) (h : s + m = t) (ht : t ≤ 3000) : wrap64 ((s : Int) + (m : Int)) = (t : Int) ∧ ¬ ((t : Int) < 0) ∧ (s : Int) + (m : Int) = (t : Int) := by
  refine ⟨by unfold wrap64; omega, by omega, by omega⟩
theorem cc_idx (j : Nat) (h : j < 3) : (j : Int) < 3 ∧ (0 : Int) ≤ (j : Int) ∧ wrap64 ((j : Int) + 1) = ((j + 1 : Nat) : Int) := by
  refine ⟨by omega, by omega, by unfold wrap64; omega⟩

set_option maxRecDepth 100000 in
set_option maxHeartbeats 1000000 in
theorem pConcat (b : Nat) (A : Nat → Option Addr) (C : Nat → Nat) (P : Nat → Pairs) (w : World) (h : P3 w b A C P) :
    Calls Try.prog 74 #[.slice (some ⟨b, 0, none⟩) 3 3] w (CatS w (catP P 3)) := by
  have hle := catP_le P fun i hi => (h.2 i hi).2.2.1
  have H := Lib.hid h
  have HLE := Lib.hid hle
  obtain ⟨i, hi, hz0, hz1, hz2⟩ := info_parts infoPair
  clear h hle
  go_enter Try.func74, Try.ntmps74
  go_wp2_with fail
  go_loopw [3, 11] (fun s i wr => ∃ (j : Nat) (W : World), W = wr ∧ wr = w ∧ j ≤ 3 ∧ s = .int .i64 ((catP P j).length : Int) ∧ i = .int .i64 (j : Int)) (fun _ i _ => 3 - (intOf i).toNat)
  case atStart => exact ⟨0, _, rfl, rfl, by omega, rfl, rfl⟩
  case round =>
    obtain ⟨j, W, rfl, rfl, hj, rfl, rfl⟩ := hrel
    obtain ⟨w, rfl⟩ : ∃ w, w = W := ⟨_, rfl⟩
    by_cases hlt : j < 3
    · obtain ⟨e1, e2, e3, e4⟩ := H.out.2 j hlt
      have hs := catP_succ P j
      have hs2 : (catP P j).length + (P j).length = (catP P (j + 1)).length := by rw [hs, List.length_append]
      obtain ⟨n1, n2, n3⟩ := cc_nums _ _ _ hs2 (by have := HLE.out (j + 1) hlt; omega)
      obtain ⟨j1, j2, j3⟩ := cc_idx j hlt
      obtain ⟨s, hse⟩ : ∃ s, (catP P j).length = s := ⟨_, rfl⟩
      obtain ⟨t, hte⟩ : ∃ t, (catP P (j + 1)).length = t := ⟨_, rfl⟩
      obtain ⟨m, hme⟩ : ∃ m, (P j).length = m := ⟨_, rfl⟩
      rw [hse] at n1 n3
      rw [hte] at n1 n2 n3
      rw [hme] at n1 n3 e1
      rw [hse]
      have HT := Lib.hid hte
      clear hs hs2 hse hte hme e2 e3 e4 n3
      go_wp2_with fail
      go_roundw
      case rel => exact ⟨j + 1, _, rfl, by first | rfl | trivial, by omega, by rw [n1, HT.out], by first | rfl | (simp; done) | (rw [j3])⟩
      case measure => simp [intOf] <;> omega
    · obtain rfl : j = 3 := by omega
      have CG := Lib.hid (pGrow (catP P 3).length (by have := HLE.out 3 (by omega); omega) w)
      obtain ⟨s, hse⟩ : ∃ s, (catP P 3).length = s := ⟨_, rfl⟩
      rw [hse] at CG ⊢
      go_wp2_with (go_at_call 90; refine CG.out.mono ?_)
      rintro e V ⟨v, rfl, hrow, hk⟩
      have HR := Lib.hid (And.intro hrow hk)
      have hsl := slLen_row hrow
      clear hse hrow hk CG hsl
      go_wp2_with fail
      go_loopw [6, 27] (fun x i wr => ∃ (j : Nat) (W : World), W = wr ∧ j ≤ 3 ∧ i = .int .i64 (j : Int) ∧ Hid (W.ownsRow w.heap.size 82 2 x (catP P j).length (cellsP (catP P j)) ∧ KeptIn (· < w.heap.size) w W)) (fun _ i _ => 3 - (intOf i).toNat)
      case atStart => exact ⟨0, _, rfl, by omega, rfl, HR⟩
      case round =>
        obtain ⟨j, W, rfl, hj, rfl, HJ⟩ := hrel
        by_cases hlt : j < 3
        · obtain ⟨e1, e2, e3, e4⟩ := (H.out.old HJ.out.2).2 j hlt
          obtain ⟨j1, j2, j3⟩ := cc_idx j hlt
          have hs := catP_succ P j
          have hl3 := HLE.out (j + 1) hlt
          have hrow := HJ.out.1
          have hwx : w.heap.size ≤ W.heap.size := HJ.out.2.size
          have hA : A j = none ∧ C j = 0 ∧ P j = [] ∨ ∃ g off, A j = some ⟨g, off, none⟩ := by
            rcases Nat.eq_zero_or_pos (P j).length with h0 | h0
            · rcases e4 h0 with ⟨h1, h2⟩ | h1
              · exact .inl ⟨h1, h2, List.length_eq_zero_iff.1 h0⟩
              · exact .inr h1
            · obtain ⟨bb, off, hA, hbb⟩ := psSome e2 h0
              exact .inr ⟨bb, off, hA⟩
          rcases hA with ⟨hA, hC, hP⟩ | ⟨bb, off, hA⟩
          · rw [hA, hC, hP] at e1
            rw [hP, List.append_nil] at hs
            have HROW := Lib.hid hrow
            have HS := Lib.hid hs
            clear e2 e3 e4 hs hrow hA hC hP
            go_wp2_with (at_builtin; refine wpList_append_own_none rfl _ _ 25 rfl w.heap.size 82 i 2 Try.underlying25 hi _ _ _ rfl HROW.out rfl ?_)
            go_roundw
            case rel => exact ⟨j + 1, _, rfl, by omega, by first | rfl | (simp; done) | (rw [j3]), by rw [HS.out]; exact HJ⟩
            case measure => simp [intOf] <;> omega
          · rw [hA] at e1 e2
            obtain ⟨m, hme⟩ : ∃ m, (P j).length = m := ⟨_, rfl⟩
            obtain ⟨s1, hse1⟩ : ∃ s1, (catP P j).length = s1 := ⟨_, rfl⟩
            have HNW : Hid (∀ k u, (cellsP (P j))[k]? = some u → W.cell? ((⟨bb, off, none⟩ : Addr).add k) = some u) := Lib.hid (by
              rcases Nat.eq_zero_or_pos (P j).length with h0 | h0
              · intro k u hu
                rw [List.length_eq_zero_iff.1 h0] at hu
                simp [cellsP] at hu
              · exact psNews e2 h0)
            have HL : Hid ((cellsP (P j)).length = m * 2) := Lib.hid (by rw [cellsP_length, hme])
            rw [hs, List.length_append, hme, hse1] at hl3
            rw [hme] at e1
            rw [hse1] at hrow
            have HROW := Lib.hid hrow
            have HS := Lib.hid (And.intro hs (And.intro hme hse1))
            have b1 : s1 + m ≤ maxLen := by unfold maxLen; omega
            have b2 : (s1 + m) * 16 ≤ 140737488355328 := by omega
            clear e2 e3 e4 hs hrow hme hse1 hA
            go_wp2_with (at_builtin; refine wpList_append_own _ rfl _ _ 25 rfl w.heap.size 82 i _ 2 16 Try.underlying25 hi hz0 hz1 hz2 rfl (by decide) _ _ _ rfl HROW.out ⟨bb, off, none⟩ m (C j) (cellsP (P j)) rfl HL.out HNW.out (cellsP_one (P j)) b1 b2 hwx ?_)
            intro v' w' hown hgrow _
            have HO : Hid (w'.ownsRow w.heap.size 82 2 v' (catP P (j + 1)).length (cellsP (catP P (j + 1))) ∧ KeptIn (· < w.heap.size) w w') := Lib.hid ⟨by
              rw [HS.out.1, List.length_append, HS.out.2.1, HS.out.2.2, cellsP_append]
              exact hown, HJ.out.2.grown (fun _ h => h) hgrow fun g' e => Nat.not_lt.2 (rowS_lt HROW.out g' e).1⟩
            clear hown hgrow
            go_wp2_with fail
            go_roundw
            case rel => exact ⟨j + 1, _, rfl, by omega, by first | rfl | (simp; done) | (rw [j3]), HO⟩
            case measure => simp [intOf] <;> omega
        · obtain rfl : j = 3 := by omega
          go_wp2_with fail
          go_ret
          exact ⟨_, rfl, HJ.out.1, HJ.out.2⟩

end Go.Proofs.Ytdbohcdjamhdjaa
