import Derived.Test.YtjollbaohopmjaaV5
import Derived.Lib.AppendZeros
import Derived.Laws.AppendOwnNone
/- slices.Grow and slices.Concat at rows of pairs; a step's with. -/
set_option linter.unusedVariables false
namespace Go.Proofs.Ytjollbaohopmjaa
open Go.RowKit

/-- A row of pairs of a call's own. -/
def CatS (w : World) (qs : Pairs) (e : Ending) (w' : World) : Prop :=
  ∃ v, e = .returned v ∧ w'.ownsRow w.heap.size 75 2 v qs.length (cellsP qs) ∧ KeptIn (· < w.heap.size) w w'

set_option maxRecDepth 100000 in
theorem pGrow (n : Nat) (hn : n ≤ 100000) (w : World) : Calls Try.prog 74 #[.slice none 0 0, .int .i64 (n : Int)] w (CatS w []) := by
  obtain ⟨i, hi, hz0, hz1, hz2⟩ := info_parts infoPair
  have n0 : ¬ ((n : Int) < 0) := by omega
  rcases Nat.eq_zero_or_pos n with h0 | h0
  · subst h0
    go_enter Try.func74, Try.ntmps74
    go_wp2_with fail
    go_ret
    exact ⟨_, rfl, ⟨rfl, .inl ⟨rfl, rfl⟩⟩, KeptIn.refl _ _⟩
  · have n1 : (0 : Int) < (n : Int) := by omega
    have n2 : wrap64 (n : Int) = (n : Int) := by unfold wrap64; omega
    have hr := Lib.run_append_nil_zeros (P := Try.prog) w 25 3 25 75 i _ .i64 .i64 Try.underlying25 Try.underlying3 hi hz0 n h0 (by omega) (by omega) (by rw [hz2]; omega)
    obtain ⟨cap, hcap⟩ : ∃ cap, grownCap w n 0 75 = cap := ⟨_, rfl⟩
    have hc1 : n ≤ cap := by rw [← hcap]; exact grownCap_ge ..
    have hc2 : cap ≤ maxLen := by rw [← hcap]; exact grownCap_le_maxLen _ _ _ _ (by unfold maxLen; omega)
    rw [hcap] at hr
    obtain ⟨cs, hcs⟩ : ∃ cs, Builtin.zeroCells (Value.agg #[.int .u64 0, .int .u64 0]).cells n ++ Builtin.zeroCells (Value.agg #[.int .u64 0, .int .u64 0]).cells (cap - n) = cs := ⟨_, rfl⟩
    rw [hcs] at hr
    have hsz : cs.size = cap * 2 := by
      rw [← hcs]
      simp only [Array.size_append, Builtin.zeroCells]
      simp [Value.cells]
      omega
    have HR := Lib.hid hr
    clear hr hcs hcap
    have hcap0 : ¬ (cap < 0) := by omega
    go_enter Try.func74, Try.ntmps74
    go_wp2_with (at_builtin; refine Lib.wpList_append_run _ rfl _ _ _ _ rfl _ _ rfl rfl _ _ HR.out ?_)
    go_ret
    refine ⟨_, rfl, ⟨rfl, .inr ⟨w.heap.size, cap, cs, rfl, Nat.le_refl _, heap_alloc_new _ _, Nat.zero_le _, hc2, hsz, rfl⟩⟩, (KeptIn.refl _ w).drew.alloc (fun _ h => h) _⟩

/-- Three rows of pairs in a row of slices. -/
def P3 (W : World) (b : Nat) (A : Nat → Option Addr) (C : Nat → Nat) (P : Nat → Pairs) : Prop := b < W.heap.size ∧ ∀ i, i < 3 → W.cell? ⟨b, i, none⟩ = some (.slice (A i) (P i).length (C i)) ∧ IsPs W (A i) (P i) ∧ (P i).length ≤ 1000 ∧ ((P i).length = 0 → A i = none ∧ C i = 0 ∨ ∃ g off, A i = some ⟨g, off, none⟩)
theorem P3.old {W W' : World} {b : Nat} {A : Nat → Option Addr} {C : Nat → Nat} {P : Nat → Pairs} (h : P3 W b A C P) (hk : KeptIn (· < W.heap.size) W W') : P3 W' b A C P :=
  ⟨Nat.lt_of_lt_of_le h.1 hk.size, fun i hi => ⟨(World.cell?_of_block (a := ⟨b, i, none⟩) (hk.block b h.1)).trans (h.2 i hi).1, (h.2 i hi).2.1.old hk, (h.2 i hi).2.2⟩⟩
def catP (P : Nat → Pairs) (j : Nat) : Pairs := ((List.range j).map P).flatten
theorem catP_succ (P : Nat → Pairs) (j : Nat) : catP P (j + 1) = catP P j ++ P j := by simp [catP, List.range_succ]
theorem catP_le (P : Nat → Pairs) (h : ∀ i, i < 3 → (P i).length ≤ 1000) : ∀ j, j ≤ 3 → (catP P j).length ≤ 1000 * j := by
  intro j hj
  induction j with
  | zero => simp [catP]
  | succ j ih =>
    rw [catP_succ, List.length_append]
    have := ih (by omega)
    have := h j (by omega)
    omega
theorem cc_nums (s m t : Nat) (h : s + m = t) (ht : t ≤ 3000) : wrap64 ((s : Int) + (m : Int)) = (t : Int) ∧ ¬ ((t : Int) < 0) ∧ (s : Int) + (m : Int) = (t : Int) := by
  refine ⟨by unfold wrap64; omega, by omega, by omega⟩
theorem cc_idx (j : Nat) (h : j < 3) : (j : Int) < 3 ∧ (0 : Int) ≤ (j : Int) ∧ wrap64 ((j : Int) + 1) = ((j + 1 : Nat) : Int) := by
  refine ⟨by omega, by omega, by unfold wrap64; omega⟩

set_option maxRecDepth 100000 in
set_option maxHeartbeats 1000000 in
theorem pConcat (b : Nat) (A : Nat → Option Addr) (C : Nat → Nat) (P : Nat → Pairs) (w : World) (h : P3 w b A C P) :
    Calls Try.prog 54 #[.slice (some ⟨b, 0, none⟩) 3 3] w (CatS w (catP P 3)) := by
  have hle := catP_le P fun i hi => (h.2 i hi).2.2.1
  have H := Lib.hid h
  have HLE := Lib.hid hle
  obtain ⟨i, hi, hz0, hz1, hz2⟩ := info_parts infoPair
  clear h hle
  go_enter Try.func54, Try.ntmps54
  go_wp2_with fail
  go_loopw [3, 11] (fun s i wr => ∃ (j : Nat) (W : World), W = wr ∧ wr = w ∧ j ≤ 3 ∧ s = .int .i64 ((catP P j).length : Int) ∧ i = .int .i64 (j : Int)) (fun _ i _ => 3 - (intOf i).toNat)
  case atStart => exact ⟨0, _, rfl, rfl, by omega, rfl, rfl⟩
  case round =>
    obtain ⟨j, W, rfl, rfl, hj, rfl, rfl⟩ := hrel
    obtain ⟨w, rfl⟩ : ∃ w, w = W := ⟨_, rfl⟩
    by_cases hlt : j < 3
    · obtain ⟨e1, e2, e3, e4⟩ := H.out.2 j hlt
      have hs := catP_succ P j
      have hs2 : (catP P j).length + (P j).length = (catP P (j + 1)).length := by rw [hs, List.length_append]
      obtain ⟨n1, n2, n3⟩ := cc_nums _ _ _ hs2 (by have := HLE.out (j + 1) hlt; omega)
      obtain ⟨j1, j2, j3⟩ := cc_idx j hlt
      obtain ⟨s, hse⟩ : ∃ s, (catP P j).length = s := ⟨_, rfl⟩
      obtain ⟨t, hte⟩ : ∃ t, (catP P (j + 1)).length = t := ⟨_, rfl⟩
      obtain ⟨m, hme⟩ : ∃ m, (P j).length = m := ⟨_, rfl⟩
      rw [hse] at n1 n3
      rw [hte] at n1 n2 n3
      rw [hme] at n1 n3 e1
      rw [hse]
      have HT := Lib.hid hte
      clear hs hs2 hse hte hme e2 e3 e4 n3
      go_wp2_with fail
      go_roundw
      case rel => exact ⟨j + 1, _, rfl, by first | rfl | trivial, by omega, by rw [n1, HT.out], by first | rfl | (simp; done) | (rw [j3])⟩
      case measure => simp [intOf] <;> omega
    · obtain rfl : j = 3 := by omega
      have CG := Lib.hid (pGrow (catP P 3).length (by have := HLE.out 3 (by omega); omega) w)
      obtain ⟨s, hse⟩ : ∃ s, (catP P 3).length = s := ⟨_, rfl⟩
      rw [hse] at CG ⊢
      go_wp2_with (go_at_call 74; refine CG.out.mono ?_)
      rintro e V ⟨v, rfl, hrow, hk⟩
      have HR := Lib.hid (And.intro hrow hk)
      have hsl := slLen_row hrow
      clear hse hrow hk CG hsl
      go_wp2_with fail
      go_loopw [6, 27] (fun x i wr => ∃ (j : Nat) (W : World), W = wr ∧ j ≤ 3 ∧ i = .int .i64 (j : Int) ∧ Hid (W.ownsRow w.heap.size 75 2 x (catP P j).length (cellsP (catP P j)) ∧ KeptIn (· < w.heap.size) w W)) (fun _ i _ => 3 - (intOf i).toNat)
      case atStart => exact ⟨0, _, rfl, by omega, rfl, HR⟩
      case round =>
        obtain ⟨j, W, rfl, hj, rfl, HJ⟩ := hrel
        by_cases hlt : j < 3
        · obtain ⟨e1, e2, e3, e4⟩ := (H.out.old HJ.out.2).2 j hlt
          obtain ⟨j1, j2, j3⟩ := cc_idx j hlt
          have hs := catP_succ P j
          have hl3 := HLE.out (j + 1) hlt
          have hrow := HJ.out.1
          have hwx : w.heap.size ≤ W.heap.size := HJ.out.2.size
          have hA : A j = none ∧ C j = 0 ∧ P j = [] ∨ ∃ g off, A j = some ⟨g, off, none⟩ := by
            rcases Nat.eq_zero_or_pos (P j).length with h0 | h0
            · rcases e4 h0 with ⟨h1, h2⟩ | h1
              · exact .inl ⟨h1, h2, List.length_eq_zero_iff.1 h0⟩
              · exact .inr h1
            · obtain ⟨bb, off, hA, hbb⟩ := psSome e2 h0
              exact .inr ⟨bb, off, hA⟩
          rcases hA with ⟨hA, hC, hP⟩ | ⟨bb, off, hA⟩
          · rw [hA, hC, hP] at e1
            rw [hP, List.append_nil] at hs
            have HROW := Lib.hid hrow
            have HS := Lib.hid hs
            clear e2 e3 e4 hs hrow hA hC hP
            go_wp2_with (at_builtin; refine wpList_append_own_none rfl _ _ 25 rfl w.heap.size 75 i 2 Try.underlying25 hi _ _ _ rfl HROW.out rfl ?_)
            go_roundw
            case rel => exact ⟨j + 1, _, rfl, by omega, by first | rfl | (simp; done) | (rw [j3]), by rw [HS.out]; exact HJ⟩
            case measure => simp [intOf] <;> omega
          · rw [hA] at e1 e2
            obtain ⟨m, hme⟩ : ∃ m, (P j).length = m := ⟨_, rfl⟩
            obtain ⟨s1, hse1⟩ : ∃ s1, (catP P j).length = s1 := ⟨_, rfl⟩
            have HNW : Hid (∀ k u, (cellsP (P j))[k]? = some u → W.cell? ((⟨bb, off, none⟩ : Addr).add k) = some u) := Lib.hid (by
              rcases Nat.eq_zero_or_pos (P j).length with h0 | h0
              · intro k u hu
                rw [List.length_eq_zero_iff.1 h0] at hu
                simp [cellsP] at hu
              · exact psNews e2 h0)
            have HL : Hid ((cellsP (P j)).length = m * 2) := Lib.hid (by rw [cellsP_length, hme])
            rw [hs, List.length_append, hme, hse1] at hl3
            rw [hme] at e1
            rw [hse1] at hrow
            have HROW := Lib.hid hrow
            have HS := Lib.hid (And.intro hs (And.intro hme hse1))
            have b1 : s1 + m ≤ maxLen := by unfold maxLen; omega
            have b2 : (s1 + m) * 16 ≤ 140737488355328 := by omega
            clear e2 e3 e4 hs hrow hme hse1 hA
            go_wp2_with (at_builtin; refine wpList_append_own _ rfl _ _ 25 rfl w.heap.size 75 i _ 2 16 Try.underlying25 hi hz0 hz1 hz2 rfl (by decide) _ _ _ rfl HROW.out ⟨bb, off, none⟩ m (C j) (cellsP (P j)) rfl HL.out HNW.out (cellsP_one (P j)) b1 b2 hwx ?_)
            intro v' w' hown hgrow _
            have HO : Hid (w'.ownsRow w.heap.size 75 2 v' (catP P (j + 1)).length (cellsP (catP P (j + 1))) ∧ KeptIn (· < w.heap.size) w w') := Lib.hid ⟨by
              rw [HS.out.1, List.length_append, HS.out.2.1, HS.out.2.2, cellsP_append]
              exact hown, HJ.out.2.grown (fun _ h => h) hgrow fun g' e => Nat.not_lt.2 (rowS_lt HROW.out g' e).1⟩
            clear hown hgrow
            go_wp2_with fail
            go_roundw
            case rel => exact ⟨j + 1, _, rfl, by omega, by first | rfl | (simp; done) | (rw [j3]), HO⟩
            case measure => simp [intOf] <;> omega
        · obtain rfl : j = 3 := by omega
          go_wp2_with fail
          go_ret
          exact ⟨_, rfl, HJ.out.1, HJ.out.2⟩

end Go.Proofs.Ytjollbaohopmjaa
/- Package tree's step.with. -/
set_option linter.unusedVariables false
namespace Go.Proofs.Ytjollbaohopmjaa
open Go.RowKit

theorem row_slice {W : World} {B n : Nat} {v : Value} {xs : List Value} (h : W.ownsRow B 75 2 v n xs) : ∃ a cap, v = .slice a n cap ∧ CapOk a n cap := by
  rcases h.2 with ⟨rfl, rfl⟩ | ⟨g1, cap1, cur, rfl, _, _, h1, h2, _⟩
  · exact ⟨none, 0, rfl, Nat.le_refl _, Nat.zero_le _, (fun _ => rfl), fun p e => by cases e⟩
  · exact ⟨_, _, rfl, h1, h2, (fun e => by cases e), fun p e => by cases e; exact ⟨g1, rfl⟩⟩
theorem psTake {W : World} {a : Option Addr} {ps : Pairs} (h : IsPs W a ps) (i : Nat) : IsPs W a (ps.take i) := by
  refine ⟨Nat.le_trans (by rw [List.length_take]; omega) h.len, fun p hp => h.fits p (List.mem_of_mem_take hp), fun hp => ?_⟩
  rw [List.length_take] at hp
  obtain ⟨b, off, e, hb, hc⟩ := h.cells (by omega)
  refine ⟨b, off, e, hb, fun j hj => ?_⟩
  rw [List.length_take] at hj
  have := hc j (by omega)
  rw [keyAt_get (by rw [List.length_take]; omega), valAt_get (by rw [List.length_take]; omega), List.getElem_take]
  rw [keyAt_get (by omega), valAt_get (by omega)] at this
  exact this
theorem psDrop {W : World} {g : Nat} {ps : Pairs} (h : IsPs W (some ⟨g, 0, none⟩) ps) (i off : Nat) (ho : i < ps.length → off = i * 2) : IsPs W (some ⟨g, off, none⟩) (ps.drop i) := by
  refine ⟨Nat.le_trans (by rw [List.length_drop]; omega) h.len, fun p hp => h.fits p (List.mem_of_mem_drop hp), fun hp => ?_⟩
  rw [List.length_drop] at hp
  obtain ⟨b, off', e, hb, hc⟩ := h.cells (by omega)
  simp only [Option.some.injEq, Addr.mk.injEq, and_true] at e
  obtain ⟨rfl, rfl⟩ := e
  refine ⟨g, off, rfl, hb, fun j hj => ?_⟩
  rw [List.length_drop] at hj
  have := hc (i + j) (by omega)
  rw [keyAt_get (by rw [List.length_drop]; omega), valAt_get (by rw [List.length_drop]; omega), List.getElem_drop]
  rw [keyAt_get (by omega), valAt_get (by omega)] at this
  rw [ho (by omega), show i * 2 + j * 2 = 0 + (i + j) * 2 by omega]
  exact this

/-- A list that is laid in: what its slice is where it is empty. -/
def EmpOk (a : Option Addr) (n cap : Nat) : Prop := n = 0 → a = none ∧ cap = 0 ∨ ∃ g off, a = some ⟨g, off, none⟩

/-- A node with other pairs. -/
def WithS (w : World) (lv : Int) (qs : Pairs) (e : Ending) (w' : World) : Prop :=
  ∃ a cap, e = .returned (leafV lv a qs.length cap) ∧ w'.ownsRow w.heap.size 75 2 (.slice a qs.length cap) qs.length (cellsP qs) ∧ KeptIn (· < w.heap.size) w w'

/-- Slices of a row. -/
def three {α : Type} (x y z : α) : Nat → α
  | 0 => x
  | 1 => y
  | _ => z
theorem catP_three (x y z : Pairs) : catP (three x y z) 3 = x ++ y ++ z := by simp [catP, List.range, List.range.loop, three]

theorem p3_new {V : World} {a1 a2 a3 : Option Addr} {c1 c2 c3 : Nat} {p1 p2 p3 : Pairs} (h1 : IsPs V a1 p1) (h2 : IsPs V a2 p2) (h3 : IsPs V a3 p3) (l1 : p1.length ≤ 1000) (l2 : p2.length ≤ 1000) (l3 : p3.length ≤ 1000) (e1 : EmpOk a1 p1.length c1) (e2 : EmpOk a2 p2.length c2) (e3 : EmpOk a3 p3.length c3) :
    P3 (V.alloc (.cells #[.slice a1 p1.length c1, .slice a2 p2.length c2, .slice a3 p3.length c3] 25)) V.heap.size (three a1 a2 a3) (three c1 c2 c3) (three p1 p2 p3) := by
  have hk : KeptIn (· < V.heap.size) V (V.alloc (.cells #[.slice a1 p1.length c1, .slice a2 p2.length c2, .slice a3 p3.length c3] 25)) := (KeptIn.refl _ V).alloc (fun _ h => h) _
  have hb := heap_alloc_new V (.cells #[.slice a1 p1.length c1, .slice a2 p2.length c2, .slice a3 p3.length c3] 25)
  refine ⟨by simp, fun i hi => ?_⟩
  rcases (by omega : i = 0 ∨ i = 1 ∨ i = 2) with rfl | rfl | rfl
  · exact ⟨(cell_of_row _ _ 0 _ _ _ hb).trans rfl, h1.old hk, l1, e1⟩
  · exact ⟨(cell_of_row _ _ 1 _ _ _ hb).trans rfl, h2.old hk, l2, e2⟩
  · exact ⟨(cell_of_row _ _ 2 _ _ _ hb).trans rfl, h3.old hk, l3, e3⟩

theorem wi_facts2 {W V : World} {x n cap fr to n9 c9 : Nat} {lv : Int} {a a9 : Option Addr} (hst : W.heap[x]? = some (.cells #[.int .i64 lv, .slice a n cap, .int .i64 (fr : Int), .int .i64 (to : Int)] 81 (0, 0))) (hk : KeptIn (· < W.heap.size) W V) :
    ((V.setCell ⟨x + 1, 0, none⟩ (.int .i64 lv)).setCell ⟨x + 1, 1, none⟩ (.slice a9 n9 c9)).cell? ⟨x, 0, none⟩ = some (.int .i64 lv) ∧ ((V.setCell ⟨x + 1, 0, none⟩ (.int .i64 lv)).setCell ⟨x + 1, 1, none⟩ (.slice a9 n9 c9)).cell? ⟨x, 1, none⟩ = some (.slice a n cap) ∧
      ((V.setCell ⟨x + 1, 0, none⟩ (.int .i64 lv)).setCell ⟨x + 1, 1, none⟩ (.slice a9 n9 c9)).cell? ⟨x, 2, none⟩ = some (.int .i64 (fr : Int)) ∧ ((V.setCell ⟨x + 1, 0, none⟩ (.int .i64 lv)).setCell ⟨x + 1, 1, none⟩ (.slice a9 n9 c9)).cell? ⟨x, 3, none⟩ = some (.int .i64 (to : Int)) := by
  have h1 := (hk.block x (Array.getElem?_eq_some_iff.1 hst).1).trans hst
  have h : ((V.setCell ⟨x + 1, 0, none⟩ (.int .i64 lv)).setCell ⟨x + 1, 1, none⟩ (.slice a9 n9 c9)).heap[x]? = _ := (heap_setCell_other _ _ _ _ (by simp)).trans ((heap_setCell_other _ _ _ _ (by simp)).trans h1)
  generalize ((V.setCell ⟨x + 1, 0, none⟩ (.int .i64 lv)).setCell ⟨x + 1, 1, none⟩ (.slice a9 n9 c9)) = V9 at h ⊢
  exact ⟨by simp [World.cell?, h], by simp [World.cell?, h], by simp [World.cell?, h], by simp [World.cell?, h]⟩
theorem row_weaken {W : World} {B B' n : Nat} {v : Value} {xs : List Value} (h : W.ownsRow B 75 2 v n xs) (hB : B' ≤ B) : W.ownsRow B' 75 2 v n xs := by
  refine ⟨h.1, ?_⟩
  rcases h.2 with h1 | ⟨g, cap, cur, rfl, hg, r⟩
  · exact .inl h1
  · exact .inr ⟨g, cap, cur, rfl, Nat.le_trans hB hg, r⟩


/-- What the walk needs of a world. -/
theorem wi_facts {W V : World} {x n cap fr to : Nat} {lv : Int} {a : Option Addr} (hst : W.heap[x]? = some (.cells #[.int .i64 lv, .slice a n cap, .int .i64 (fr : Int), .int .i64 (to : Int)] 81 (0, 0))) (hk : KeptIn (· < W.heap.size) W V) :
    V.cell? ⟨x, 0, none⟩ = some (.int .i64 lv) ∧ V.cell? ⟨x, 1, none⟩ = some (.slice a n cap) ∧ V.cell? ⟨x, 2, none⟩ = some (.int .i64 (fr : Int)) ∧ V.cell? ⟨x, 3, none⟩ = some (.int .i64 (to : Int)) := by
  have h := (hk.block x (Array.getElem?_eq_some_iff.1 hst).1).trans hst
  exact ⟨by simp [World.cell?, h], by simp [World.cell?, h], by simp [World.cell?, h], by simp [World.cell?, h]⟩

set_option maxRecDepth 100000 in
set_option maxHeartbeats 1000000 in
theorem trWith (lv : Int) (g cap fr to al : Nat) (aL : Option Addr) (ps xs : Pairs) (w : World) (h : IsPs w (some ⟨g, 0, none⟩) ps) (hc : CapOk (some ⟨g, 0, none⟩) ps.length cap) (hf : fr ≤ to) (ht : to ≤ ps.length) (hl : ps.length ≤ 1000) (hL : IsPs w aL xs) (hl2 : xs.length ≤ 1000) (hE : EmpOk aL xs.length al) :
    Calls Try.prog 39 #[stepV lv (some ⟨g, 0, none⟩) ps.length cap fr to, .slice aL xs.length al] w (WithS w lv (ps.take fr ++ xs ++ ps.drop to)) := by
  obtain ⟨a, ha⟩ : ∃ a : Option Addr, a = some ⟨g, 0, none⟩ := ⟨_, rfl⟩
  obtain ⟨n, hn⟩ : ∃ n, ps.length = n := ⟨_, rfl⟩
  rw [← ha, hn]
  obtain ⟨W, hW⟩ : ∃ W, (w.alloc (.cells #[.int .i64 lv, .slice a n cap, .int .i64 (fr : Int), .int .i64 (to : Int)] 81)).alloc (.cells #[.int .i64 0, .slice none 0 0] 27) = W := ⟨_, rfl⟩
  have hkW : KeptIn (· < w.heap.size) w W := by rw [← hW]; exact ((KeptIn.refl _ w).alloc (fun _ h => h) _).alloc (fun _ h => h) _
  obtain ⟨x, hx⟩ : ∃ x, w.heap.size = x := ⟨_, rfl⟩
  have hst : W.heap[x]? = some (.cells #[.int .i64 lv, .slice a n cap, .int .i64 (fr : Int), .int .i64 (to : Int)] 81 (0, 0)) := by
    rw [← hW, ← hx]
    exact (Lib.alloc_old _ _ _ (by simp)).trans (heap_alloc_new _ _)
  have hbl : BoxL (x + 1) 0 none 0 0 W := by
    rw [← hW, ← hx, show w.heap.size + 1 = (w.alloc (.cells #[.int .i64 lv, .slice a n cap, .int .i64 (fr : Int), .int .i64 (to : Int)] 81)).heap.size by simp]
    exact heap_alloc_new _ _
  obtain ⟨q0, q1, q2, q3⟩ := wi_facts (V := W.drew) hst (KeptIn.refl _ _).drew
  have s1 : (0 : Int) ≤ (fr : Int) := by omega
  have s2 : (fr : Int) ≤ (cap : Int) := by have := hc.1; omega
  have s3 : (0 : Int) ≤ (to : Int) := by omega
  have s4 : (to : Int) ≤ (n : Int) := by omega
  obtain ⟨m, hm⟩ : ∃ m, xs.length = m := ⟨_, rfl⟩
  obtain ⟨off, hoff⟩ : ∃ off, (if cap = to then 0 else to * 2) = off := ⟨_, rfl⟩
  have hp3 : IsPs w (some ⟨g, off, none⟩) (ps.drop to) := psDrop h to off fun hlt => by
    rw [← hoff, if_neg (by have := hc.1; omega)]
  obtain ⟨R, hR⟩ : ∃ R, ps.take fr ++ xs ++ ps.drop to = R := ⟨_, rfl⟩
  rw [hR]
  have CC : Hid (Calls Try.prog 54 #[.slice (some ⟨W.heap.size, 0, none⟩) 3 3] (W.alloc (.cells #[.slice (some ⟨g, 0, none⟩) fr cap, .slice aL m al, .slice (some ⟨g, off, none⟩) (n - to) (cap - to)] 25)).drew (CatS (W.alloc (.cells #[.slice (some ⟨g, 0, none⟩) fr cap, .slice aL m al, .slice (some ⟨g, off, none⟩) (n - to) (cap - to)] 25)).drew R)) := Lib.hid (by
    have := pConcat W.heap.size _ _ _ _ ((p3_new (c1 := cap) (c2 := al) (c3 := cap - to) (psTake (h.old hkW) fr) (hL.old hkW) (hp3.old hkW) (by rw [List.length_take]; omega) hl2 (by rw [List.length_drop]; omega) (fun _ => .inr ⟨g, 0, rfl⟩) hE (fun _ => .inr ⟨g, off, rfl⟩)).old (KeptIn.refl _ _).drew)
    rw [catP_three, List.length_take, List.length_drop, hm, hn, show min fr n = fr by omega, hR] at this
    exact this)
  have HF : Hid (∀ c V, KeptIn (· < (W.alloc c).drew.heap.size) (W.alloc c).drew V → BoxL (x + 1) 0 none 0 0 V ∧ KeptIn (· < w.heap.size) w V ∧ w.heap.size ≤ (W.alloc c).drew.heap.size ∧ x + 1 < (W.alloc c).drew.heap.size) := Lib.hid fun c V hV => by
    have hk1 : KeptIn (· < W.heap.size) W (W.alloc c).drew := ((KeptIn.refl _ _).alloc (fun _ h => h) _).drew
    have hk2 := hk1.go hV
    exact ⟨hbl.kept hk2 hbl.lt, hkW.go hk2, Nat.le_trans hkW.size hk1.size, Nat.lt_of_lt_of_le hbl.lt hk1.size⟩
  have H := Lib.hid (And.intro hst (And.intro hbl (And.intro hkW (And.intro hn hm))))
  have HW := Lib.hid hW
  have HK2 := Lib.hid fun V n9 c9 (hk : KeptIn (· < W.heap.size) W V) a9 => wi_facts2 (a9 := a9) (n9 := n9) (c9 := c9) hst hk
  have HK := Lib.hid fun V (hk : KeptIn (· < W.heap.size) W V) => wi_facts (V := V) hst hk
  rw [hm]
  unfold stepV
  by_cases hct : cap = to
  · rw [if_pos hct] at hoff
    subst hoff
    subst hct
    clear h hc hL hE hst hbl hkW hW hm hn hR hp3
    subst ha
    simp only [Nat.sub_self] at CC
    go_enter Try.func39, Try.ntmps39
    go_wp2_with fail
    rw [HW.out]
    go_region_held3 (fun w' => w'.cell? ⟨x, 0, none⟩ = some (.int .i64 lv) ∧ w'.cell? ⟨x, 1, none⟩ = some (.slice (some ⟨g, 0, none⟩) n cap) ∧ w'.cell? ⟨x, 2, none⟩ = some (.int .i64 (fr : Int)) ∧ w'.cell? ⟨x, 3, none⟩ = some (.int .i64 (cap : Int)))
      (first | exact ⟨q0, q1, q2, q3⟩ | exact HK.out _ (((KeptIn.refl _ _).alloc (fun _ h => h) _).drew) | exact HK.out _ ((((KeptIn.refl _ _).alloc (fun _ h => h) _).drew).go hk) | exact HK2.out _ _ _ ((((KeptIn.refl _ _).alloc (fun _ h => h) _).drew).go hk) _)
      (first | (go_at_call 54; refine CC.out.mono ?_; rintro e V ⟨v, rfl, hrow, hk⟩; obtain ⟨a9, c9, rfl, hc9⟩ := row_slice hrow; obtain ⟨hb9, hk9, hs9, hx9⟩ := HF.out _ V hk; have d0 := hb9.c0; have d1 := hb9.c1; have f0 := hb9.f0; have f1 := hb9.f1))
    all_goals
      have hset := hb9.set (lv' := lv) (a' := a9) (n' := R.length) (cap' := c9)
      have hkx := (hk9.setCell (p := ⟨x + 1, 0, none⟩) (by rw [hx]; simp) (.int .i64 lv)).setCell (p := ⟨x + 1, 1, none⟩) (by rw [hx]; simp) (.slice a9 R.length c9)
      have hrow2 := rowS_block (w' := (V.setCell ⟨x + 1, 0, none⟩ (.int .i64 lv)).setCell ⟨x + 1, 1, none⟩ (.slice a9 R.length c9)) hrow fun g' e => by
        have := (rowS_lt hrow g' e).1
        exact (heap_setCell_other _ _ _ _ (by simp; omega)).trans (heap_setCell_other _ _ _ _ (by simp; omega))
      go_wp2_with fail
      refine bodyPost_ret (results_leaf1 rfl _ _ (x + 1) _ _ _ _ rfl hset) rfl ?_
      exact ⟨a9, c9, rfl, row_weaken hrow2 hs9, hkx⟩
  · rw [if_neg hct] at hoff
    subst hoff
    clear h hc hL hE hst hbl hkW hW hm hn hR hp3
    subst ha
    go_enter Try.func39, Try.ntmps39
    go_wp2_with fail
    rw [HW.out]
    go_region_held3 (fun w' => w'.cell? ⟨x, 0, none⟩ = some (.int .i64 lv) ∧ w'.cell? ⟨x, 1, none⟩ = some (.slice (some ⟨g, 0, none⟩) n cap) ∧ w'.cell? ⟨x, 2, none⟩ = some (.int .i64 (fr : Int)) ∧ w'.cell? ⟨x, 3, none⟩ = some (.int .i64 (to : Int)))
      (first | exact ⟨q0, q1, q2, q3⟩ | exact HK.out _ (((KeptIn.refl _ _).alloc (fun _ h => h) _).drew) | exact HK.out _ ((((KeptIn.refl _ _).alloc (fun _ h => h) _).drew).go hk) | exact HK2.out _ _ _ ((((KeptIn.refl _ _).alloc (fun _ h => h) _).drew).go hk) _)
      (first | (go_at_call 54; refine CC.out.mono ?_; rintro e V ⟨v, rfl, hrow, hk⟩; obtain ⟨a9, c9, rfl, hc9⟩ := row_slice hrow; obtain ⟨hb9, hk9, hs9, hx9⟩ := HF.out _ V hk; have d0 := hb9.c0; have d1 := hb9.c1; have f0 := hb9.f0; have f1 := hb9.f1))
    all_goals
      have hset := hb9.set (lv' := lv) (a' := a9) (n' := R.length) (cap' := c9)
      have hkx := (hk9.setCell (p := ⟨x + 1, 0, none⟩) (by rw [hx]; simp) (.int .i64 lv)).setCell (p := ⟨x + 1, 1, none⟩) (by rw [hx]; simp) (.slice a9 R.length c9)
      have hrow2 := rowS_block (w' := (V.setCell ⟨x + 1, 0, none⟩ (.int .i64 lv)).setCell ⟨x + 1, 1, none⟩ (.slice a9 R.length c9)) hrow fun g' e => by
        have := (rowS_lt hrow g' e).1
        exact (heap_setCell_other _ _ _ _ (by simp; omega)).trans (heap_setCell_other _ _ _ _ (by simp; omega))
      go_wp2_with fail
      refine bodyPost_ret (results_leaf1 rfl _ _ (x + 1) _ _ _ _ rfl hset) rfl ?_
      exact ⟨a9, c9, rfl, row_weaken hrow2 hs9, hkx⟩

end Go.Proofs.Ytjollbaohopmjaa
/- Package tree's addNodes. -/
set_option linter.unusedVariables false
namespace Go.Proofs.Ytjollbaohopmjaa
open Go.RowKit Go.Shelf
attribute [local go_sem] Oper.semAt_some

/-- A block of cells. -/
def IsC (W : World) (k : Nat) : Prop := ∃ cs t fr, W.heap[k]? = some (.cells cs t fr)
theorem IsC.lt {W : World} {k : Nat} (h : IsC W k) : k < W.heap.size := by
  obtain ⟨cs, t, fr, h⟩ := h
  exact (Array.getElem?_eq_some_iff.1 h).1
theorem IsC.eq {W W' : World} {k : Nat} (h : IsC W k) (e : W'.heap[k]? = W.heap[k]?) : IsC W' k := by
  obtain ⟨cs, t, fr, h⟩ := h
  exact ⟨cs, t, fr, e.trans h⟩
theorem isC_cell {W : World} {a : Addr} {v : Value} (h : W.cell? a = some v) : IsC W a.block := by
  obtain ⟨o, h1, h2⟩ := cells_of_cell h
  cases o with
  | cells cs t fr => exact ⟨cs, t, fr, h1⟩
  | _ => cases h2

/-- A Shelf is made of cells. -/
theorem IsSh.cells {W : World} {s room : Nat} {N : List Nd} {D : Nat → Prop} (h : IsSh W s room N D) : IsSh W s room N (fun k => D k ∧ IsC W k) := by
  obtain ⟨la, cap, h1, h0, h2⟩ := h.mem
  refine ⟨⟨h.ds, _, _, _, h1⟩, fun k hk => h.lt k hk.1, h.len, h.rm, h.pos, la, cap, h1, h0, fun hp => ?_⟩
  obtain ⟨b, e, hb, hne, hc, hm, hi⟩ := h2 hp
  have hbc : IsC W b := by
    obtain ⟨a, capn, c1, _⟩ := hi 0 hp
    exact isC_cell c1
  refine ⟨b, e, ⟨hb, hbc⟩, hne, hc, hm, fun i hl => ?_⟩
  obtain ⟨a, capn, c1, c2, c3, c4⟩ := hi i hl
  refine ⟨a, capn, c1, c2, c3, fun p hp => ⟨⟨(c4 p hp).1, ?_⟩, (c4 p hp).2⟩⟩
  obtain ⟨b', off, e', hb', hc'⟩ := c3.cells (h.pos i hl).1
  rw [hp] at e'
  obtain rfl := Option.some.inj e'
  exact isC_cell (hc' 0 (h.pos i hl).1).1

/-- What calls leave of a Shelf to which nodes were added. -/
def AddTo (w : World) (s room : Nat) (D : Nat → Prop) (N' : List Nd) (w' : World) : Prop :=
  ∃ D', IsSh w' s room N' D' ∧ (∀ k, D' k → D k ∨ w.heap.size ≤ k) ∧ KeptIn (fun k => k < w.heap.size ∧ k ≠ s) w w'
theorem AddTo.refl {w : World} {s room : Nat} {D : Nat → Prop} {N : List Nd} (h : IsSh w s room N D) : AddTo w s room D N w := ⟨D, h, fun k hk => .inl hk, KeptIn.refl _ _⟩
theorem AddTo.old {w w' w2 : World} {s room : Nat} {D : Nat → Prop} {N : List Nd} (h : AddTo w s room D N w') (hk : KeptIn (· < w'.heap.size) w' w2) : AddTo w s room D N w2 := by
  obtain ⟨D', h1, h2, h3⟩ := h
  exact ⟨D', h1.old hk, h2, h3.trans (hk.mono fun k h => Nat.lt_of_lt_of_le h.1 h3.size)⟩
theorem AddTo.from {w0 w w' : World} {s room : Nat} {D : Nat → Prop} {N : List Nd} (hk : KeptIn (· < w0.heap.size) w0 w) (h : AddTo w s room D N w') : AddTo w0 s room D N w' := by
  obtain ⟨D', h1, h2, h3⟩ := h
  exact ⟨D', h1, fun k hd => (h2 k hd).imp id fun h => Nat.le_trans hk.size h, (hk.mono fun k h => h.1).trans (h3.mono fun k h => ⟨Nat.lt_of_lt_of_le h.1 hk.size, h.2⟩)⟩

/-- What comes back: the pairs that lead to the nodes, or that there is no room. -/
def ResL (w : World) (o : Option Pairs) (e : Ending) (w' : World) : Prop := match o with
  | some ls => ∃ a cap, e = .returned (.tuple #[.slice a ls.length cap, .int .i64 0]) ∧ w'.ownsRow w.heap.size 75 2 (.slice a ls.length cap) ls.length (cellsP ls)
  | none => e = .returned (.tuple #[.slice none 0 0, .int .i64 6])
def NodesS (w : World) (s room : Nat) (D : Nat → Prop) (r : Option Pairs × List Nd) (e : Ending) (w' : World) : Prop := ResL w r.1 e w' ∧ AddTo w s room D r.2 w'

theorem psSub {W : World} {b off : Nat} {ps : Pairs} (h : IsPs W (some ⟨b, off, none⟩) ps) (i m : Nat) : IsPs W (some ⟨b, off + i * 2, none⟩) ((ps.drop i).take m) := by
  refine psTake ?_ m
  refine ⟨Nat.le_trans (by rw [List.length_drop]; omega) h.len, fun p hp => h.fits p (List.mem_of_mem_drop hp), fun hp => ?_⟩
  rw [List.length_drop] at hp
  obtain ⟨b', off', e, hb, hc⟩ := h.cells (by omega)
  simp only [Option.some.injEq, Addr.mk.injEq, and_true] at e
  obtain ⟨rfl, rfl⟩ := e
  refine ⟨b, off + i * 2, rfl, hb, fun j hj => ?_⟩
  rw [List.length_drop] at hj
  have := hc (i + j) (by omega)
  rw [keyAt_get (by rw [List.length_drop]; omega), valAt_get (by rw [List.length_drop]; omega), List.getElem_drop]
  rw [keyAt_get (by omega), valAt_get (by omega)] at this
  rw [show off + i * 2 + j * 2 = off + (i + j) * 2 by omega]
  exact this

/-- The nodes of parts, and what leads there. -/
def partL (m : Nat) (l : Pairs) (x : PartN m l.length) : Pairs := (l.drop (m * x.1)).take m
def nodesP (lv m : Nat) (l : Pairs) (pre : List (PartN m l.length)) : List Nd := pre.map fun x => (lv, partL m l x)
def leadsP (n0 m : Nat) (l : Pairs) (pre : List (PartN m l.length)) : Pairs := pre.mapIdx fun i x => (keyAt l (m * x.1), n0 + i + 1)
theorem nodesP_snoc (lv m : Nat) (l : Pairs) (pre : List (PartN m l.length)) (x : PartN m l.length) : nodesP lv m l (pre ++ [x]) = nodesP lv m l pre ++ [(lv, partL m l x)] := by simp [nodesP]
theorem leadsP_snoc (n0 m : Nat) (l : Pairs) (pre : List (PartN m l.length)) (x : PartN m l.length) : leadsP n0 m l (pre ++ [x]) = leadsP n0 m l pre ++ [(keyAt l (m * x.1), n0 + pre.length + 1)] := by simp [leadsP]
theorem leadsP_length (n0 m : Nat) (l : Pairs) (pre : List (PartN m l.length)) : (leadsP n0 m l pre).length = pre.length := by simp [leadsP]
theorem nodesP_length (lv m : Nat) (l : Pairs) (pre : List (PartN m l.length)) : (nodesP lv m l pre).length = pre.length := by simp [nodesP]
theorem firstJ_all {m : Nat} {l : Pairs} (hm : 0 < m) (n0 lv : Nat) : ∀ k, k ≤ partsOf m l.length → nodesP lv m l (firstJ m l.length k) = nodesOf lv m l k ∧ leadsP n0 m l (firstJ m l.length k) = leadsOf n0 m l k := by
  intro k
  induction k with
  | zero => intro _; exact ⟨rfl, rfl⟩
  | succ k ih =>
    intro h
    obtain ⟨h1, h2⟩ := ih (by omega)
    rw [firstJ_succ ((parts_lt hm).1 h), nodesP_snoc, leadsP_snoc, nodesOf_succ, leadsOf_succ, h1, h2, firstJ_length hm k (by omega)]
    exact ⟨rfl, rfl⟩
theorem partL_pos {m : Nat} {l : Pairs} (hm : 0 < m) (x : PartN m l.length) : 0 < (partL m l x).length ∧ (partL m l x).length = min m (l.length - m * x.1) := by
  have := x.2
  unfold partL
  rw [List.length_take, List.length_drop]
  omega

/-- Between two rounds: W0 is where the loop began, L the leads' box; ro: how many were added. -/
structure AnI (W0 : World) (s room L : Nat) (D : Nat → Prop) (X : Nat → Prop) (N' : List Nd) (ls : Pairs) (W : World) : Prop where
  ex : ∃ D' a cap, IsSh W s room N' D' ∧ (∀ k, D' k → IsC W k) ∧ (∀ k, D' k → D k ∨ W0.heap.size ≤ k) ∧ W.heap[L]? = some (.cells #[.slice a ls.length cap] 25 (0, 0)) ∧
    W.ownsRow W0.heap.size 75 2 (.slice a ls.length cap) ls.length (cellsP ls) ∧ (∀ g, (Value.slice a ls.length cap).ownBlock = some g → ¬ D' g)
  kept : KeptIn X W0 W

theorem own_block {W W' : World} {B r : Nat} {row : Option Nat} (hg : W.grownBy W' row) (hr : ∀ r, row = some r → B ≤ r ∧ ∃ o : Obj, W.heap[r]? = some o ∧ o.isCells = false) {k : Nat} (hk : IsC W k) : W'.heap[k]? = W.heap[k]? := by
  refine hg.block k hk.lt fun e => ?_
  obtain ⟨_, o, ho, hc⟩ := hr k e.symm
  obtain ⟨cs, t, fr, h⟩ := hk
  rw [h] at ho
  cases ho
  cases hc

/-- What speaks of cells alone abides what the loop itself does. -/
theorem AnI.own {W0 W W' : World} {s room L : Nat} {D X : Nat → Prop} {N' : List Nd} {ls : Pairs} {row : Option Nat} (h : AnI W0 s room L D X N' ls W) (hX : ∀ k, X k → k < W0.heap.size) (hg : W.grownBy W' row) (hr : ∀ r, row = some r → W0.heap.size ≤ r ∧ ∃ o : Obj, W.heap[r]? = some o ∧ o.isCells = false) : AnI W0 s room L D X N' ls W' := by
  obtain ⟨⟨D', a, cap, h1, h2, h3, h4, h5, h6⟩, hk⟩ := h
  have hb := fun k (hk : IsC W k) => own_block (r := 0) hg hr hk
  refine ⟨⟨D', a, cap, h1.kept ⟨hg.os, hg.tape, hg.output, hg.size, fun k hd => hb k (h2 k hd)⟩, fun k hd => (h2 k hd).eq (hb k (h2 k hd)), h3, (hb L ⟨_, _, _, h4⟩).trans h4, rowS_block h5 fun g e => hb g ?_, h6⟩, hk.trans ⟨hg.os, hg.tape, hg.output, hg.size, fun k hx => hg.block k (Nat.lt_of_lt_of_le (hX k hx) hk.size) fun e => ?_⟩⟩
  · rcases h5.2 with ⟨e1, _⟩ | ⟨g1, cap1, cur, e1, _, hc, _⟩
    · rw [e1] at e; cases e
    · rw [e1] at e
      simp only [Value.ownBlock, Option.some.injEq] at e
      subst e
      exact ⟨_, _, _, hc⟩
  · have := (hr k e.symm).1
    have := hX k hx
    omega

/-- Blocks laid in a row. -/
def allocL (w : World) (os : List Obj) : World := os.foldl World.alloc w
theorem allocL_size : ∀ (os : List Obj) (w : World), (allocL w os).heap.size = w.heap.size + os.length := by
  intro os
  induction os with
  | nil => intro w; rfl
  | cons o r ih =>
    intro w
    show (allocL (w.alloc o) r).heap.size = _
    rw [ih, World.size_alloc, List.length_cons]; omega
theorem allocL_kept : ∀ (os : List Obj) (w : World), KeptIn (· < w.heap.size) w (allocL w os) := by
  intro os
  induction os with
  | nil => intro w; exact KeptIn.refl _ _
  | cons o r ih => intro w; exact ((KeptIn.refl _ w).alloc (fun _ h => h) o).go (ih _)
theorem allocL_at : ∀ (os : List Obj) (w : World) (i : Nat) (h : i < os.length), (allocL w os).heap[w.heap.size + i]? = some os[i] := by
  intro os
  induction os with
  | nil => intro w i h; cases h
  | cons o r ih =>
    intro w i h
    show (allocL (w.alloc o) r).heap[w.heap.size + i]? = _
    cases i with
    | zero => exact ((allocL_kept r (w.alloc o)).block _ (by simp)).trans (World.alloc_heap_new w o)
    | succ i =>
      have := ih (w.alloc o) i (by simpa using h)
      rw [World.size_alloc] at this
      rw [show w.heap.size + (i + 1) = w.heap.size + 1 + i by omega]
      exact this

/-- In a round a region without defers goes as anywhere. -/
theorem any_round {F : Fence} {n l : Nat} {P : Program} {md : Region.Mode} {ops : Array Oper} {Q : Exit → Act → World → Prop} (hro : F.round = none) (hno : ∀ (i : Nat) (o : Oper), ops[i]? = some o → ∀ c, o.op ≠ .defer c) : ∀ (fuel : Nat) (listed : Array Bool) (a : Act) (w : World), wpAnyIn F n P md ops Q fuel listed a w → wpAnyIn (F.inRound l) n P md ops Q fuel listed a w := by
  intro fuel
  induction fuel with
  | zero => intro listed a w h; exact h
  | succ fuel ih =>
    intro listed a w h
    refine ⟨h.1, fun i hi => ?_⟩
    have h1 := wpOpIn_mono (K' := wpAnyIn (F.inRound l) n P md ops Q fuel (listed.setIfInBounds i true)) (fun a w => ih _ a w) (h.2 i hi)
    unfold wpOpIn at h1 ⊢
    cases ho : ops[i]? with
    | none => rw [ho] at h1; exact h1
    | some o =>
      rw [ho] at h1
      dsimp only at h1 ⊢
      split
      · rename_i hw
        rw [if_pos hw] at h1
        refine ⟨h1.1, ?_⟩
        have h2 := h1.2
        rw [Oper.semAt_eq _ _ _ (hno i o ho)] at h2 ⊢
        exact h2
      · rename_i hw
        rw [if_neg hw] at h1
        exact h1

/-- append, which the walk is not to open. -/
def appS (ts : Array TypeId) (t : TypeId) (args : Array Value) : Sem Value := Builtin.append_ ts t args
theorem appS_eq (ts : Array TypeId) (t : TypeId) (args : Array Value) : Builtin.append_ ts t args = appS ts t args := rfl

/-- Behind a node more, and the pair that leads there. -/
theorem AnI.more {W0 W V2 V3 w' : World} {s room L n9 k0 gg g cap' : Nat} {D X D2 : Nat → Prop} {N' : List Nd} {nd : Nd} {ls : Pairs} {D1 : Nat → Prop} {a1 : Option Addr} {c1 : Nat} {ob : Obj}
    (hX : ∀ k, X k ↔ k < W0.heap.size ∧ k ≠ s ∧ k ≠ L) (hD : ∀ k, D k → k ≠ L ∧ k < W0.heap.size) (hL : L < W0.heap.size) (hs : s < W0.heap.size) (hLs : L ≠ s)
    (i1 : IsSh W s room N' D1) (i3 : ∀ k, D1 k → D k ∨ W0.heap.size ≤ k) (i5 : W.ownsRow W0.heap.size 75 2 (.slice a1 ls.length c1) ls.length (cellsP ls)) (i6 : ∀ g, (Value.slice a1 ls.length c1).ownBlock = some g → ¬ D1 g) (hk : KeptIn X W0 W)
    (i4 : W.heap[L]? = some (.cells #[.slice a1 ls.length c1] 25 (0, 0)))
    (hsh : IsSh V2 s room (N' ++ [nd]) D2) (hD2 : ∀ k, D2 k → D1 k ∨ W.heap.size ≤ k) (hk2 : KeptIn (fun k => k < W.heap.size ∧ k ≠ s) W V2) (hV3 : (V2.alloc ob).drew = V3)
    (hown : w'.ownsRow W0.heap.size 75 2 (.slice (some ⟨g, 0, none⟩) (ls.length + 1) cap') (ls.length + 1) (cellsP ls ++ [.int .u64 (k0 : Int), .int .u64 (n9 : Int)])) (hgrow : V3.grownBy w' (Value.slice a1 ls.length c1).ownBlock)
    (hg : (Value.slice a1 ls.length c1).ownBlock = some g ∨ g = V3.heap.size) :
    AnI W0 s room L D X (N' ++ [nd]) (ls ++ [(k0, n9)]) (w'.setCell ⟨L, 0, none⟩ (.slice (some ⟨g, 0, none⟩) (ls.length + 1) cap')) ∧ KeptIn X W (w'.setCell ⟨L, 0, none⟩ (.slice (some ⟨g, 0, none⟩) (ls.length + 1) cap')) ∧
      KeepsFrom W0.heap.size W (w'.setCell ⟨L, 0, none⟩ (.slice (some ⟨g, 0, none⟩) (ls.length + 1) cap')) := by
  have hsz : W0.heap.size ≤ W.heap.size := hk.size
  have hs2 : W.heap.size ≤ V2.heap.size := hk2.size
  have hs3 : V3.heap.size = V2.heap.size + 1 := by rw [← hV3]; show (V2.alloc ob).heap.size = _; simp
  have hkA : KeptIn (· < V2.heap.size) V2 V3 := by rw [← hV3]; exact ((KeptIn.refl _ V2).alloc (fun _ h => h) ob).drew
  have hown1 : ∀ g1, (Value.slice a1 ls.length c1).ownBlock = some g1 → W0.heap.size ≤ g1 ∧ g1 < W.heap.size := fun g1 e => rowS_lt i5 g1 e
  have hcb : ∀ g1, (Value.slice a1 ls.length c1).ownBlock = some g1 → IsC W g1 := fun g1 e => by
    rcases i5.2 with ⟨e1, _⟩ | ⟨g2, cap2, cur, e1, _, hc, _⟩
    · rw [e1] at e; cases e
    · rw [e1] at e
      simp only [Value.ownBlock, Option.some.injEq] at e
      subst e
      exact ⟨_, _, _, hc⟩
  have hfar : ∀ k, k < V2.heap.size → (Value.slice a1 ls.length c1).ownBlock ≠ some k → k ≠ L → (w'.setCell ⟨L, 0, none⟩ (.slice (some ⟨g, 0, none⟩) (ls.length + 1) cap')).heap[k]? = V2.heap[k]? := fun k h1 h2 h3 =>
    (heap_setCell_other _ _ _ _ (by simpa using h3)).trans ((hgrow.block k (by omega) (fun e => h2 e.symm)).trans (hkA.block k h1))
  have hnD2 : ∀ g1, (Value.slice a1 ls.length c1).ownBlock = some g1 → ¬ D2 g1 := fun g1 e hd => by
    rcases hD2 g1 hd with h | h
    · exact i6 g1 e h
    · have := (hown1 g1 e).2; omega
  have hLD2 : ¬ D2 L := fun hd => by
    rcases hD2 L hd with h | h
    · rcases i3 L h with h | h
      · exact (hD L h).1 rfl
      · omega
    · omega
  have hgL : g ≠ L := by
    rcases hg with h | h
    · have := (hown1 g h).1; omega
    · omega
  have hL2 : w'.heap[L]? = some (.cells #[.slice a1 ls.length c1] 25 (0, 0)) := by
    refine (hgrow.block L (by omega) fun e => ?_).trans ((hkA.block L (by omega)).trans ((hk2.block L ⟨by omega, hLs⟩).trans i4))
    have := (hown1 L e.symm).1; omega
  have hgD : ¬ D2 g := by
    rcases hg with h | h
    · exact hnD2 g h
    · intro hd; have := hsh.lt g hd; omega
  have hw'sz : W.heap.size ≤ w'.heap.size := by have := hgrow.size; omega
  have hkX : KeptIn X W (w'.setCell ⟨L, 0, none⟩ (.slice (some ⟨g, 0, none⟩) (ls.length + 1) cap')) := by
    refine ⟨hgrow.os.trans (hkA.os.trans hk2.os), hgrow.tape.trans (hkA.tape.trans hk2.tape), hgrow.output.trans (hkA.output.trans hk2.output), by simpa using hw'sz, fun k hx => ?_⟩
    obtain ⟨h1, h2, h3⟩ := (hX k).1 hx
    exact (hfar k (by omega) (fun e => by have := (hown1 k e).1; omega) h3).trans (hk2.block k ⟨by omega, h2⟩)
  refine ⟨⟨⟨fun k => D2 k ∧ IsC V2 k, some ⟨g, 0, none⟩, cap', ?_, fun k hd => ?_, fun k hd => ?_, ?_, ?_, fun g1 e hd => ?_⟩, hk.trans hkX⟩, hkX, ⟨by simpa using hw'sz, fun k o hB ho hc => ?_⟩⟩
  · refine hsh.cells.kept ⟨hgrow.os.trans hkA.os, hgrow.tape.trans hkA.tape, hgrow.output.trans hkA.output, by simp; have := hgrow.size; omega, fun k hd => hfar k (hsh.lt k hd.1) (fun e => hnD2 k e hd.1) (fun e => hLD2 (e ▸ hd.1))⟩
  · exact hd.2.eq (hfar k (hsh.lt k hd.1) (fun e => hnD2 k e hd.1) (fun e => hLD2 (e ▸ hd.1)))
  · rcases hD2 k hd.1 with h | h
    · exact i3 k h
    · exact .inr (by omega)
  · rw [heap_setCell_same _ _ _ _ _ _ hL2, List.length_append]; rfl
  · rw [List.length_append, cellsP_append]
    refine rowS_block hown fun g1 e => heap_setCell_other _ _ _ _ ?_
    have : g = g1 := by simpa [Value.ownBlock] using e
    rw [← this]; simpa using hgL
  · have : g = g1 := by simpa [Value.ownBlock] using e
    exact hgD (this ▸ hd.1)
  · have hkl : k < W.heap.size := (Array.getElem?_eq_some_iff.1 ho).1
    refine (hfar k (by omega) (fun e => ?_) (by omega)).trans ((hk2.block k ⟨hkl, by omega⟩).trans ho)
    obtain ⟨cs, t, fr, h⟩ := hcb k e
    rw [h] at ho
    cases ho
    cases hc

/-- Behind the loop: what is handed back is stored. -/
theorem an_end {w W0 W Wf : World} {s room R E v0 : Nat} {D D' X : Nat → Prop} {N' : List Nd} {Dd : Nat} {o : Obj} {u : Value} (hk0 : KeptIn (· < w.heap.size) w W0) (hs : s < w.heap.size) (hX : ∀ k, k < w.heap.size → k ≠ s → X k) (hD : ∀ k, D k → k < w.heap.size) (hR : w.heap.size ≤ R ∧ R < W0.heap.size) (hE : w.heap.size ≤ E ∧ E < W0.heap.size)
    (h1 : IsSh W s room N' D') (h2 : ∀ k, D' k → IsC W k) (h3 : ∀ k, D' k → D k ∨ W0.heap.size ≤ k) (hk : KeptIn X W0 W) (hK : W.heap[Dd]? = some (.deferred (some []))) (hDd : W0.heap.size ≤ Dd)
    (hW : ((W.setCell ⟨R, 0, none⟩ u).setCell ⟨E, 0, none⟩ (.int .i64 (v0 : Int))).putObj Dd o = Wf) :
    AddTo w s room D N' Wf ∧ (∀ k, IsC W k → k ≠ R → k ≠ E → Wf.heap[k]? = W.heap[k]?) := by
  have hfar : ∀ k, k ≠ R → k ≠ E → k ≠ Dd → Wf.heap[k]? = W.heap[k]? := fun k e1 e2 e3 => by
    rw [← hW]
    exact (World.putObj_heap_other e3).trans ((heap_setCell_other _ _ _ _ (by simpa using e2)).trans (heap_setCell_other _ _ _ _ (by simpa using e1)))
  have hcd : ∀ k, IsC W k → k ≠ Dd := fun k hk e => by
    obtain ⟨cs, t, fr, h⟩ := hk
    rw [e, hK] at h
    cases h
  have hsz : Wf.heap.size = W.heap.size := by rw [← hW]; simp
  have hnot : ∀ k, D' k → k ≠ R ∧ k ≠ E := fun k hd => by
    rcases h3 k hd with h | h
    · have := hD k h; omega
    · omega
  refine ⟨⟨D', h1.kept ⟨by rw [← hW]; rfl, by rw [← hW]; rfl, by rw [← hW]; rfl, by omega, fun k hd => hfar k (hnot k hd).1 (hnot k hd).2 (hcd k (h2 k hd))⟩, fun k hd => (h3 k hd).imp id fun h => Nat.le_trans hk0.size h, ?_⟩, fun k hc e1 e2 => hfar k e1 e2 (hcd k hc)⟩
  have h0 := hk0.size
  refine ((hk0.mono fun k h => h.1).trans (hk.mono fun k h => hX k h.1 h.2)).trans ⟨by rw [← hW]; rfl, by rw [← hW]; rfl, by rw [← hW]; rfl, by omega, fun k h => hfar k (by omega) (by omega) (by omega)⟩

theorem an_stop {w W0 W Wf : World} {s room R E : Nat} {D D' X : Nat → Prop} {N' : List Nd} {Dd : Nat} {o : Obj} (hk0 : KeptIn (· < w.heap.size) w W0) (hs : s < w.heap.size) (hX : ∀ k, k < w.heap.size → k ≠ s → X k)
    (h1 : IsSh W s room N' D') (h2 : ∀ k, D' k → IsC W k) (h3 : ∀ k, D' k → D k ∨ W0.heap.size ≤ k) (hk : KeptIn X W0 W) (hK : W.heap[Dd]? = some (.deferred (some []))) (hDd : W0.heap.size ≤ Dd) (hW : W.putObj Dd o = Wf) :
    AddTo w s room D N' Wf := by
  have hfar : ∀ k, k ≠ Dd → Wf.heap[k]? = W.heap[k]? := fun k e => by rw [← hW]; exact World.putObj_heap_other e
  have hcd : ∀ k, IsC W k → k ≠ Dd := fun k hk e => by
    obtain ⟨cs, t, fr, h⟩ := hk
    rw [e, hK] at h
    cases h
  have hsz : Wf.heap.size = W.heap.size := by rw [← hW]; simp
  refine ⟨D', h1.kept ⟨by rw [← hW]; rfl, by rw [← hW]; rfl, by rw [← hW]; rfl, by omega, fun k hd => hfar k (hcd k (h2 k hd))⟩, fun k hd => (h3 k hd).imp id fun h => Nat.le_trans hk0.size h, ?_⟩
  have h0 := hk0.size
  exact ((hk0.mono fun k h => h.1).trans (hk.mono fun k h => hX k h.1 h.2)).trans ⟨by rw [← hW]; rfl, by rw [← hW]; rfl, by rw [← hW]; rfl, by omega, fun k h => hfar k (by omega)⟩

end Go.Proofs.Ytjollbaohopmjaa
/- Package tree's addNodes: the walk. -/
set_option linter.unusedVariables false
namespace Go.Proofs.Ytjollbaohopmjaa
open Go.RowKit Go.Shelf
attribute [local go_sem] Oper.semAt_some
attribute [local go_sem ↓] appS_eq

/-- So many came, or none. -/
def CntOk (n c k : Nat) : Prop := k = 0 ∨ n + k ≤ c
/-- A round left: there was no room. -/
def AnX (W0 : World) (s room R E lv m : Nat) (D X : Nat → Prop) (N : List Nd) (l : Pairs) (c : Code) (pre : List (PartN m l.length)) (W : World) : Prop :=
  c = .ret ∧ ∃ ini last, pre = ini ++ [last] ∧ (∃ D', IsSh W s room (N ++ nodesP lv m l ini) D' ∧ (∀ k, D' k → IsC W k) ∧ (∀ k, D' k → D k ∨ W0.heap.size ≤ k)) ∧ min room 511 ≤ N.length + ini.length ∧ CntOk N.length (min room 511) ini.length ∧
    W.heap[R]? = some (.cells #[.slice none 0 0] 25 (0, 0)) ∧ W.heap[E]? = some (.cells #[.int .i64 6] 32 (0, 0)) ∧ KeptIn (fun k => X k ∧ k ≠ R ∧ k ≠ E) W0 W

theorem AnX.own {W0 : World} {s room R E lv m : Nat} {D X : Nat → Prop} {N : List Nd} {l : Pairs} (c : Code) (hX : ∀ k, X k → k < W0.heap.size) : OwnFrom W0.heap.size (AnX W0 s room R E lv m D X N l c) := by
  rintro pre W W' row ⟨hc, ini, last, e, ⟨D', h1, h2, h3⟩, h4, h5, h6, h7, hk⟩ hg hr
  have hb := fun k (hk : IsC W k) => own_block (r := 0) hg hr hk
  exact ⟨hc, ini, last, e, ⟨D', h1.kept ⟨hg.os, hg.tape, hg.output, hg.size, fun k hd => hb k (h2 k hd)⟩, fun k hd => (h2 k hd).eq (hb k (h2 k hd)), h3⟩, h4, h5, (hb _ ⟨_, _, _, h6⟩).trans h6, (hb _ ⟨_, _, _, h7⟩).trans h7,
    hk.trans ⟨hg.os, hg.tape, hg.output, hg.size, fun k hx => hg.block k (Nat.lt_of_lt_of_le (hX k hx.1) hk.size) fun e => by
      have := (hr k e.symm).1
      have := hX k hx.1
      omega⟩⟩

theorem an_frame {W V V2 : World} {s : Nat} (h : KeptIn (· < W.drew.heap.size) W.drew V) (k : KeptIn (fun k => k < V.heap.size ∧ k ≠ s) V V2) : KeptIn (fun k => k < W.heap.size ∧ k ≠ s) W V2 :=
  ((KeptIn.refl (fun k => k < W.heap.size ∧ k ≠ s) W).drew.trans ⟨h.os, h.tape, h.output, h.size, fun k hk => h.block k hk.1⟩).trans (k.mono fun k hk => ⟨Nat.lt_of_lt_of_le hk.1 h.size, hk.2⟩)

set_option maxRecDepth 100000 in
set_option maxHeartbeats 4000000 in
theorem trNodes {w : World} {s room : Nat} {N : List Nd} {D : Nat → Prop} (h : IsSh w s room N D) (lv m b off cap : Nat) (a : Option Addr) (l : Pairs) (ha : 0 < l.length → a = some ⟨b, off, none⟩) (hps : IsPs w a l) (hcap : l.length ≤ cap) (hcm : cap ≤ maxLen) (hne : b ≠ s) (hm : 0 < m) (hm15 : m ≤ 15) (hl : l.length ≤ 1000) (hNc : N.length ≤ min room 511) :
    Calls Try.prog 44 #[pgV s, .int .i64 (lv : Int), .slice a l.length cap, .int .i64 (m : Int)] w (NodesS w s room D (nodesM (min room 511) lv m l N)) := by
  have hmx : Try.prog.follows .mixedOrders = true := by kernel_rfl
  refine (callsIn_wide (n := 3)).1 ?_
  refine callsIn_of_wp_marks Try.func44 rfl trivial ?_ rfl
  simp only [Try.ntmps44, pgV, List.size_toArray, List.length_cons, List.length_nil, Nat.reduceAdd, Nat.reduceSub, Array.replicate_succ, Array.replicate_zero, List.push_toArray, List.append_toArray, List.nil_append, List.cons_append]
  obtain ⟨len, hlen⟩ : ∃ len, l.length = len := ⟨_, rfl⟩
  have H := Lib.hid (And.intro h (And.intro ha (And.intro hps (And.intro hcap (And.intro hcm (And.intro hne (And.intro hm (And.intro hm15 (And.intro hl hlen)))))))))
  rw [hlen]
  clear h ha hps hcap hcm hne hl
  gi_wp2_with (refine ⟨trivial, ?_⟩; gi_at_call 57; refine (pChunk 2 a len cap m hm _).mono ?_; rintro e w' ⟨rfl, rfl⟩)
  obtain ⟨B, hB⟩ : ∃ B, w.heap.size = B := ⟨_, rfl⟩
  obtain ⟨W0, hW0⟩ : ∃ W0, allocL w [.cells #[.iface 28 (.pointer (some ⟨s, 0, none⟩))] 57, .cells #[.int .i64 (lv : Int)] 3, .cells #[.slice none 0 0] 25, .cells #[.int .i64 0] 32, .cells #[.slice none 0 0] 25, .cells #[.slice a len cap] 25, .cells #[.int .i64 (m : Int)] 3] = W0 := ⟨_, rfl⟩
  have hsz : W0.heap.size = B + 7 := by rw [← hW0, allocL_size, hB]; rfl
  have hk0 : KeptIn (· < w.heap.size) w W0 := by rw [← hW0]; exact allocL_kept _ _
  have hat := fun i => allocL_at [.cells #[.iface 28 (.pointer (some ⟨s, 0, none⟩))] 57, .cells #[.int .i64 (lv : Int)] 3, .cells #[.slice none 0 0] 25, .cells #[.int .i64 0] 32, .cells #[.slice none 0 0] 25, .cells #[.slice a len cap] 25, .cells #[.int .i64 (m : Int)] 3] w i
  rw [hW0, hB] at hat
  obtain ⟨B1, hB1⟩ : ∃ x, B + 1 = x := ⟨_, rfl⟩
  obtain ⟨B2, hB2⟩ : ∃ x, B1 + 1 = x := ⟨_, rfl⟩
  obtain ⟨B3, hB3⟩ : ∃ x, B2 + 1 = x := ⟨_, rfl⟩
  obtain ⟨B4, hB4⟩ : ∃ x, B3 + 1 = x := ⟨_, rfl⟩
  obtain ⟨B5, hB5⟩ : ∃ x, B4 + 1 = x := ⟨_, rfl⟩
  obtain ⟨B6, hB6⟩ : ∃ x, B5 + 1 = x := ⟨_, rfl⟩
  have b0 : W0.heap[B]? = _ := hat 0 (by simp)
  have b1 : W0.heap[B1]? = _ := (show B1 = B + 1 by omega) ▸ hat 1 (by simp)
  have b2 : W0.heap[B2]? = _ := (show B2 = B + 2 by omega) ▸ hat 2 (by simp)
  have b3 : W0.heap[B3]? = _ := (show B3 = B + 3 by omega) ▸ hat 3 (by simp)
  have b4 : W0.heap[B4]? = _ := (show B4 = B + 4 by omega) ▸ hat 4 (by simp)
  have b5 : W0.heap[B5]? = _ := (show B5 = B + 5 by omega) ▸ hat 5 (by simp)
  have b6 : W0.heap[B6]? = _ := (show B6 = B + 6 by omega) ▸ hat 6 (by simp)
  clear hat
  have hW0' := hW0
  simp only [allocL, List.foldl_cons, List.foldl_nil] at hW0'
  rw [hW0']
  simp only [hB, hB1, hB2, hB3, hB4, hB5, hB6]
  obtain ⟨X, hXe⟩ : ∃ X : Nat → Prop, X = fun k => k < W0.heap.size ∧ k ≠ s ∧ k ≠ B4 := ⟨_, rfl⟩
  have hXlt : ∀ k, X k → k < W0.heap.size := fun k hk => by rw [hXe] at hk; exact hk.1
  have hsB : s < B := by rw [← hB]; exact H.out.1.lt s H.out.1.ds
  have hX5 : X B5 := by rw [hXe]; exact ⟨by omega, by omega, by omega⟩
  have hX6 : X B6 := by rw [hXe]; exact ⟨by omega, by omega, by omega⟩
  subst hlen
  obtain ⟨h, ha, hps, hcap, hcm, hne, _, _, hl, _⟩ := H.out
  have hstops := pChunk_stops 2 (by omega) B5 B6 b off m l.length cap a ha X hX5 hX6 hm (Nat.le_trans hm15 (by decide)) hl hcap hcm W0 b5 b6
  have hI0 : AnI W0 s room B4 D X (N ++ nodesP lv m l []) (leadsP N.length m l []) W0 := by
    have hc := (h.old hk0).cells
    refine ⟨⟨fun k => D k ∧ IsC W0 k, none, 0, ?_, fun k hk => hk.2, fun k hk => .inl hk.1, b4, ⟨rfl, .inl ⟨rfl, rfl⟩⟩, fun g e => by cases e⟩, KeptIn.refl _ _⟩
    rw [show N ++ nodesP lv m l [] = N by simp [nodesP]]
    exact hc
  have HX := Lib.hid (And.intro hXe (And.intro hXlt (And.intro hsB (And.intro hsz (And.intro hB (And.intro hB1 (And.intro hB2 (And.intro hB3 (And.intro hB4 (And.intro hB5 hB6))))))))))
  have HB := Lib.hid (And.intro b0 (And.intro b1 (And.intro b2 (And.intro b3 hk0))))
  have hXl2 := hXlt
  have hsz2 : W0.heap.size ≤ W0.heap.size := Nat.le_refl _
  clear hX5 hX6 b0 b1 b2 b3 b4 b5 b6 h ha hps hcap hcm hne hl hW0 hW0' hXe hsB hB hB1 hB2 hB3 hB4 hB5 hB6 hsz
  refine wpIn_rangeFunc_ownG_of_H rfl (by omega) (gf := 75) (lb := #[.pointer (some ⟨B5, 0, none⟩), .pointer (some ⟨B6, 0, none⟩)]) rfl trivial (enters_of Try.func75 (by kernel_rfl) rfl)
    hstops (fun h k => h.trans k) (fun W l' o o' hl' _ _ _ => KeptIn.putObj (fun hx => absurd (hXlt _ hx) (by omega)) o') (Below.refl _ _) (fun _ => rfl)
    (fun pre W => AnI W0 s room B4 D X (N ++ nodesP lv m l pre) (leadsP N.length m l pre) W ∧ CntOk N.length (min room 511) pre.length)
    (AnX W0 s room B2 B3 lv m D X N l)
    (fun pre W W' row hs hg hr => ⟨hs.1.own hXlt hg hr, hs.2⟩)
    (fun c => AnX.own c hXlt)
    ⟨hI0, .inl rfl⟩
    (fun x => { tmps := #[.iface 28 (.pointer (some ⟨s, 0, none⟩)), .int .i64 (lv : Int), .slice a l.length cap, .int .i64 (m : Int), .pointer (some ⟨B, 0, none⟩), .pointer (some ⟨B1, 0, none⟩), undef, undef, .pointer (some ⟨B2, 0, none⟩), .pointer (some ⟨B3, 0, none⟩), .pointer (some ⟨B4, 0, none⟩), .slice (some ⟨b, off + m * x.1 * 2, none⟩) (min m (l.length - m * x.1)) (min m (l.length - m * x.1)),
      undef, undef, .slice a l.length cap, .int .i64 (m : Int), .func (.func 75) #[] #[.pointer (some ⟨B5, 0, none⟩), .pointer (some ⟨B6, 0, none⟩)], .slice (some ⟨b, off + m * x.1 * 2, none⟩) (min m (l.length - m * x.1)) (min m (l.length - m * x.1)),
      undef, undef, undef, undef, undef, undef, undef, undef, undef, undef, undef, undef, undef, undef, undef, undef, undef, undef, undef, undef, undef, undef, undef], defers := [] })
    ?assign ?body ?done ?stop (KeptIn.refl X)
  case assign =>
    intro l' x W K hK
    unfold encJ
    gi_wp2
    exact hK
  case body =>
    rintro l' pre x W ⟨hI, hcnt⟩ hpre
    obtain ⟨⟨D1, a1, c1, i1, i2, i3, i4, i5, i6⟩, hkI⟩ := hI
    obtain ⟨h, ha, hps, hcap, hcm, hne, _, _, hl, _⟩ := H.out
    obtain ⟨hXe, hXlt, hsB, hsz, hB, hB1, hB2, hB3, hB4, hB5, hB6⟩ := HX.out
    obtain ⟨e0, e1⟩ := partL_pos hm x
    obtain ⟨p, hp⟩ : ∃ p, partL m l x = p := ⟨_, rfl⟩
    have hmem : IsPs W (some ⟨b, off + m * x.1 * 2, none⟩) p := by
      have hl0 : 0 < l.length := Nat.lt_of_le_of_lt (Nat.zero_le _) x.2
      have := hps
      rw [ha hl0] at this
      rw [← hp]
      refine psSub (psAt (X := fun k => k < B ∧ k ≠ s) this ?_ fun q e => ?_) _ _
      · exact (HB.out.2.2.2.2.mono fun k hk => by rw [hB]; exact hk.1).trans (hkI.mono fun k hk => by rw [hXe]; exact ⟨by omega, hk.2, by omega⟩)
      · cases e
        obtain ⟨b', off', e', hb', _⟩ := this.cells hl0
        cases e'
        exact ⟨by rw [← hB]; exact hb', hne⟩
    obtain ⟨e, he⟩ : ∃ e, min m (l.length - m * x.1) = e := ⟨_, rfl⟩
    rw [he] at e1 ⊢
    rw [hp] at e0 e1
    have hpl : p.length ≤ 1000 := by rw [e1, ← he]; omega
    obtain ⟨o, ho⟩ : ∃ o, off + m * x.1 * 2 = o := ⟨_, rfl⟩
    rw [ho] at hmem ⊢
    have hWsz : W0.heap.size ≤ W.heap.size := hkI.size
    have d0 : W.heap[B]? = _ := (hkI.block B (by rw [hXe]; exact ⟨by omega, by omega, by omega⟩)).trans HB.out.1
    have d1 : W.heap[B1]? = _ := (hkI.block B1 (by rw [hXe]; exact ⟨by omega, by omega, by omega⟩)).trans HB.out.2.1
    have d2 : W.heap[B2]? = _ := (hkI.block B2 (by rw [hXe]; exact ⟨by omega, by omega, by omega⟩)).trans HB.out.2.2.1
    have d3 : W.heap[B3]? = _ := (hkI.block B3 (by rw [hXe]; exact ⟨by omega, by omega, by omega⟩)).trans HB.out.2.2.2.1
    have HV : Hid (∀ V, KeptIn (fun k => k < W.heap.size ∧ k ≠ s) W V → V.cell? ⟨B, 0, none⟩ = some (.iface 28 (.pointer (some ⟨s, 0, none⟩))) ∧ V.cell? ⟨B1, 0, none⟩ = some (.int .i64 (lv : Int)) ∧ V.heap[B2]? = some (.cells #[.slice none 0 0] 25 (0, 0)) ∧ V.heap[B3]? = some (.cells #[.int .i64 0] 32 (0, 0)) ∧ V.heap[B4]? = some (.cells #[.slice a1 (leadsP N.length m l pre).length c1] 25 (0, 0))) := Lib.hid fun V hV => by
      have q0 := (hV.block B ⟨by omega, by omega⟩).trans d0
      have q1 := (hV.block B1 ⟨by omega, by omega⟩).trans d1
      exact ⟨by simp [World.cell?, q0], by simp [World.cell?, q1], (hV.block B2 ⟨by omega, by omega⟩).trans d2, (hV.block B3 ⟨by omega, by omega⟩).trans d3, (hV.block B4 ⟨by omega, by omega⟩).trans i4⟩
    have CL := Lib.hid fun V (hk : KeptIn (· < W.heap.size) W V) => pClone (some ⟨b, o, none⟩) e p V (hmem.old hk) e0 (Nat.le_trans hpl (by decide))
    have HI := Lib.hid (And.intro i1 (And.intro i2 (And.intro i3 (And.intro i5 (And.intro i6 (And.intro hkI (And.intro hcnt (And.intro hWsz hpl))))))))
    have HM := Lib.hid hmem
    have HP := Lib.hid (And.intro hp (And.intro e0 (And.intro e1 (And.intro he ho))))
    have hF := hmem.fits
    obtain ⟨c0, c1', _⟩ := HV.out W.drew ((KeptIn.refl _ _).drew)
    rw [e1] at CL
    have hd : 1 ≤ 3 - 1 - 1 := by decide
    clear i1 i2 i3 i4 i5 i6 hkI hcnt hWsz hpl d0 d1 d2 d3 e0 e1 hp he ho hmem h ha hps hcap hcm hne hl hXe hXlt hsB hsz hB hB1 hB2 hB3 hB4 hB5 hB6
    obtain ⟨n9, er, N2, hR9⟩ : ∃ (n9 er : Nat) (N2 : List Nd), ((N ++ nodesP lv m l pre).length < min room 511 ∧ (N ++ nodesP lv m l pre).length + 1 = n9 ∧ er = 0 ∧ N2 = N ++ nodesP lv m l pre ++ [(lv, p)]) ∨ (min room 511 ≤ (N ++ nodesP lv m l pre).length ∧ n9 = 0 ∧ er = 6 ∧ N2 = N ++ nodesP lv m l pre) := by
      rcases Nat.lt_or_ge (N ++ nodesP lv m l pre).length (min room 511) with h | h
      · exact ⟨_, _, _, .inl ⟨h, rfl, rfl, rfl⟩⟩
      · exact ⟨_, _, _, .inr ⟨h, rfl, rfl, rfl⟩⟩
    have CA := Lib.hid fun V (hk : KeptIn (· < W.heap.size) W V) g cg (hps : IsPs V (some ⟨g, 0, none⟩) p) => (show Calls Try.prog 58 #[pgV s, leafV (lv : Int) (some ⟨g, 0, none⟩) p.length cg] V (fun e' w' => ∃ D2, e' = .returned (.tuple #[.int .i64 (n9 : Int), .int .i64 (er : Int)]) ∧ IsSh w' s room N2 D2 ∧ (∀ k, D2 k → D1 k ∨ V.heap.size ≤ k) ∧ KeptIn (fun k => k < V.heap.size ∧ k ≠ s) V w') by
      rcases hR9 with ⟨h1, h2, rfl, rfl⟩ | ⟨h1, rfl, rfl, rfl⟩
      · exact (trAdd (HI.out.1.old hk) h1 lv (some ⟨g, 0, none⟩) cg p hps HP.out.2.1 HI.out.2.2.2.2.2.2.2.2).mono fun e' w' ⟨D2, h3, h4⟩ => ⟨D2, by rw [← h2]; exact h3, h4⟩
      · exact (trAddFull (HI.out.1.old hk) h1 lv (some ⟨g, 0, none⟩) cg p).mono fun e' w' ⟨h3, h4⟩ => ⟨D1, h3, (HI.out.1.old hk).old h4, fun k hd => .inl hd, h4.mono fun k hk => hk.1⟩)
    have HR9 := Lib.hid hR9
    clear hR9
    unfold leafV pgV at CA
    gi_wp2
    refine wpIn_mono (Q := fun e' a' w' => e' = .normal ∧ ∃ D2 u18 u19 u20 u21 u22 u23 u24 u25 u26, a' = { tmps := #[.iface 28 (.pointer (some ⟨s, 0, none⟩)), .int .i64 (lv : Int), .slice a l.length cap, .int .i64 (m : Int), .pointer (some ⟨B, 0, none⟩), .pointer (some ⟨B1, 0, none⟩), undef, undef, .pointer (some ⟨B2, 0, none⟩), .pointer (some ⟨B3, 0, none⟩), .pointer (some ⟨B4, 0, none⟩), .slice (some ⟨b, o, none⟩) e e,
      .int .i64 (n9 : Int), .int .i64 (er : Int), .slice a l.length cap, .int .i64 (m : Int), .func (.func 75) #[] #[.pointer (some ⟨B5, 0, none⟩), .pointer (some ⟨B6, 0, none⟩)], .slice (some ⟨b, o, none⟩) e e,
      u18, u19, u20, u21, u22, u23, u24, u25, u26, undef, undef, undef, undef, undef, undef, undef, undef, undef, undef, undef, undef, undef, undef], defers := [] } ∧ IsSh w' s room N2 D2 ∧ (∀ k, D2 k → D1 k ∨ W.heap.size ≤ k) ∧ KeptIn (fun k => k < W.heap.size ∧ k ≠ s) W w') ?_ ?_
    · gi_region_with_o (first
        | (refine ⟨trivial, ?_⟩; gi_at_call 33; refine (CallsIn.inRound l' (callsIn_wide.2 (CL.out _ ((KeptIn.refl _ _).drew)))).mono ?_; rintro e' V ⟨g, cg, rfl, hrow, hkV⟩; obtain ⟨c2, c3, _⟩ := HV.out V (((KeptIn.refl _ _).drew.trans ⟨hkV.os, hkV.tape, hkV.output, hkV.size, fun k hk => hkV.block k hk.1⟩)))
        | (refine ⟨trivial, ?_⟩; gi_at_call 58; refine (CallsIn.inRound l' (callsIn_wide.2 (CA.out _ ((KeptIn.refl _ _).drew.go hkV) g cg (row_IsPs hrow hF)))).mono ?_; rintro e' V2 ⟨D2, rfl, hsh, hD2, hk2⟩))
      all_goals exact ⟨rfl, D2, _, _, _, _, _, _, _, _, _, rfl, hsh, fun k hk => (hD2 k hk).imp id fun h => Nat.le_trans hkV.size h, an_frame hkV hk2⟩
    · rintro e' a' V2 ⟨rfl, D2, u18, u19, u20, u21, u22, u23, u24, u25, u26, rfl, hsh, hD2, hk2⟩
      rcases HR9.out with ⟨hroom, hn9, rfl, rfl⟩ | ⟨hroom, rfl, rfl, rfl⟩
      · have HN9 := Lib.hid hn9
        clear hn9 CA HR9
        simp only [Exit.then]
        obtain ⟨q0, q1, q2, q3, q4⟩ := HV.out V2 hk2
        obtain ⟨i1, i2, i3, i5, i6, hkI, hcnt, hWsz, hpl⟩ := HI.out
        obtain ⟨hXe, hXlt, hsB, hsz, hB, hB1, hB2, hB3, hB4, hB5, hB6⟩ := HX.out
        obtain ⟨hp, e0, e1, he, ho⟩ := HP.out
        have q5 : V2.cell? ⟨b, o, none⟩ = some (.int .u64 (keyAt p 0 : Int)) := by
          obtain ⟨b', off', e', hb', hc'⟩ := HM.out.cells e0
          cases e'
          have := (hc' 0 e0).1
          rw [Nat.zero_mul, Nat.add_zero] at this
          exact (World.cell?_of_block (a := ⟨b, o, none⟩) (hk2.block b ⟨hb', H.out.2.2.2.2.2.1⟩)).trans this
        have q6 : V2.cell? ⟨B4, 0, none⟩ = some (.slice a1 (leadsP N.length m l pre).length c1) := by simp [World.cell?, q4]
        have hln9 : n9 ≤ 512 := by have := HN9.out; omega
        have q8 : IntKind.u64.wrap (n9 : Int) = (n9 : Int) := by rw [IntKind.wrap_u64]; omega
        have q9 : (0 : Int) < (e : Int) := by omega
        have q10 : 0 < e := by omega
        obtain ⟨k0, hk0'⟩ : ∃ k0, keyAt p 0 = k0 := ⟨_, rfl⟩
        rw [hk0'] at q5
        obtain ⟨ls, hls⟩ : ∃ ls, leadsP N.length m l pre = ls := ⟨_, rfl⟩
        have hlsl : ls.length = pre.length := by rw [← hls]; exact leadsP_length ..
        rw [hls] at q6 i5 i6
        have i4 : W.heap[B4]? = some (.cells #[.slice a1 ls.length c1] 25 (0, 0)) := by
          have := (HV.out W (KeptIn.refl _ _)).2.2.2.2
          rw [hls] at this
          exact this
        obtain ⟨V3, hV3⟩ : ∃ V3, (V2.alloc (.cells #[.int .u64 (k0 : Int), .int .u64 (n9 : Int)] 75)).drew = V3 := ⟨_, rfl⟩
        have hkA : KeptIn (· < V2.heap.size) V2 V3 := by rw [← hV3]; exact ((KeptIn.refl _ V2).alloc (fun _ h => h) _).drew
        have hnb : V3.heap[V2.heap.size]? = some (.cells #[.int .u64 (k0 : Int), .int .u64 (n9 : Int)] 75 (0, 0)) := by rw [← hV3]; exact heap_alloc_new V2 _
        have hown3 : V3.ownsRow W0.heap.size 75 2 (.slice a1 ls.length c1) ls.length (cellsP ls) := rowS_block i5 fun g1 e1 => by
          obtain ⟨z1, z2⟩ := rowS_lt i5 g1 e1
          exact (hkA.block g1 (Nat.lt_of_lt_of_le z2 hk2.size)).trans (hk2.block g1 ⟨z2, by omega⟩)
        obtain ⟨ii, hii, hz0, hz1, hz2⟩ := info_parts infoPair
        have hb3 : W0.heap.size ≤ V3.heap.size := Nat.le_trans hWsz (Nat.le_trans hk2.size hkA.size)
        have hpl1 : ls.length + 1 ≤ 1000 := by
          have h1 := i1.len
          rw [List.length_append, nodesP_length] at h1
          omega
        obtain ⟨g, cap', w', hr, hown, hgrow, hg, hgl⟩ := run_append_lies (P := Try.prog) V3 25 25 W0.heap.size 75 ii _ 2 16 Try.underlying25 hii hz0 hz1 hz2 rfl (by decide) _ _ _ hown3 ⟨V2.heap.size, 0, none⟩ 1 1 [.int .u64 (k0 : Int), .int .u64 (n9 : Int)] rfl (World.news_of_block hnb) (by simp [Value.oneCell']) (by decide) (by unfold maxLen; omega) (by omega) hb3 _ rfl
        rw [appS_eq, ← hV3] at hr
        have hr4 : w'.heap[B4]? = some (.cells #[.slice a1 ls.length c1] 25 (0, 0)) := by
          have h1 : V2.heap[B4]? = some (.cells #[.slice a1 ls.length c1] 25 (0, 0)) := by rw [← hls]; exact q4
          have h2 := (Array.getElem?_eq_some_iff.1 h1).1
          refine (hgrow.block B4 (Nat.lt_of_lt_of_le h2 hkA.size) fun e1 => ?_).trans ((hkA.block B4 h2).trans h1)
          have := (rowS_lt i5 B4 e1.symm).1
          omega
        have hmore := AnI.more (gg := 0) (fun k => by rw [hXe]) (fun k hd => by have := H.out.1.lt k hd; rw [hB] at this; omega) (by omega) (by omega) (by omega) i1 i3 i5 i6 hkI i4 hsh hD2 hk2 hV3 hown hgrow hg
        have r1 : w'.cell? ⟨B4, 0, none⟩ = some (.slice a1 ls.length c1) := by simp [World.cell?, hr4]
        have r2 : w'.frozen? ⟨B4, 0, none⟩ = false := by simp [World.frozen?, hr4]
        have r3 : (V2.alloc (.cells #[.int .u64 (k0 : Int), .int .u64 (n9 : Int)] 75)).cell? ⟨B4, 0, none⟩ = some (.slice a1 ls.length c1) := (World.cell?_of_block (a := ⟨B4, 0, none⟩) (Lib.alloc_old V2 _ B4 (Array.getElem?_eq_some_iff.1 q4).1)).trans q6
        have hm2 : (AnI W0 s room B4 D X (N ++ nodesP lv m l (pre ++ [x])) (leadsP N.length m l (pre ++ [x])) (w'.setCell ⟨B4, 0, none⟩ (.slice (some ⟨g, 0, none⟩) (ls.length + 1) cap'))) ∧ KeptIn X W (w'.setCell ⟨B4, 0, none⟩ (.slice (some ⟨g, 0, none⟩) (ls.length + 1) cap')) ∧ KeepsFrom W0.heap.size W (w'.setCell ⟨B4, 0, none⟩ (.slice (some ⟨g, 0, none⟩) (ls.length + 1) cap')) ∧ CntOk N.length (min room 511) (pre ++ [x]).length := by
          refine ⟨?_, hmore.2.1, hmore.2.2, .inr ?_⟩
          · have h1 := hmore.1
            rw [nodesP_snoc, leadsP_snoc, hls, hp, ← List.append_assoc]
            have h2 : n9 = N.length + pre.length + 1 := by rw [← HN9.out, List.length_append, nodesP_length]
            have h3 : k0 = keyAt l (m * x.1) := by
              rw [← hk0', ← hp]
              unfold partL
              rw [← keyAt_drop l (m * x.1)]
              have : 0 < ((l.drop (m * x.1)).take m).length := by have := (partL_pos hm x).1; exact this
              rw [keyAt_get this, keyAt_get (by rw [List.length_take] at this; omega), List.getElem_take]
            rw [← h2, ← h3]
            exact h1
          · rw [List.length_append, nodesP_length] at hroom
            simp; omega
        have HM2 := Lib.hid hm2
        have HR2 := Lib.hid hr
        obtain ⟨ln, hln⟩ : ∃ ln, ls.length = ln := ⟨_, rfl⟩
        rw [hln] at HR2 HM2 r1 r3 q6
        clear hmore hm2 hr hown hgrow hg hgl hr4 hnb hown3 hkA hb3 hpl1 hlsl i1 i2 i3 i4 i5 i6 hkI hcnt hWsz hpl hXe hXlt hsB hsz hB hB1 hB2 hB3 hB4 hB5 hB6 hp e0 e1 he ho q0 q1 q2 q3 q4 hsh hD2 hk2 hln9 hls hln hk0' hz0 hz1 hz2 hii hV3
        gi_wp2
        obtain ⟨W9, hW9⟩ : ∃ W9, w'.setCell ⟨B4, 0, none⟩ (.slice (some ⟨g, 0, none⟩) (ln + 1) cap') = W9 := ⟨_, rfl⟩
        refine wpIn_mono (Q := fun e' a' w9 => e' = .normal ∧ w9 = W9) ?_ ?_
        · refine wpIn_region_any hmx (any_round rfl (fun i o ho c => ?_) _ _ _ _ ?_)
          · rcases i with _ | _ | _ | _ | _ | _ | _ | _ | _ | _ | _ | i <;> first | (cases ho; intro hc; cases hc) | (simp at ho)
          change wpAnyIn _ _ _ _ _ _ _ _ _ (World.drew _)
          refine wpAnyIn_take (i := 1) (v := ?_) rfl rfl (by kernel_rfl) (by kernel_rfl) (by kernel_rfl) (fun _ _ _ h => h) ⟨Or.inl ⟨by rfl, ?_⟩, fun _ => rfl⟩ ?_
          rotate_left
          · intro _
            first | (go_simp; done) | (go_simp; with_reducible rfl)
          refine wpAnyIn_take (i := 5) (v := ?_) rfl rfl (by kernel_rfl) (by kernel_rfl) (by kernel_rfl) (fun _ _ _ h => h) ⟨Or.inl ⟨by rfl, ?_⟩, fun _ => rfl⟩ ?_
          rotate_left
          · intro _
            first | (go_simp; done) | (go_simp; with_reducible rfl)
          refine wpAnyIn_take (i := 6) (v := ?_) rfl rfl (by kernel_rfl) (by kernel_rfl) (by kernel_rfl) (fun _ _ _ h => h) ⟨Or.inl ⟨by rfl, ?_⟩, fun _ => rfl⟩ ?_
          rotate_left
          · intro _
            first | (go_simp; done) | (go_simp; with_reducible rfl)
          refine wpAnyIn_ready (rs := [0, 2]) (by kernel_rfl) (by simp) ?_
          refine AllReadyIn.cons rfl (fun K hK => ?_) (AllReadyIn.cons rfl (fun K hK => ?_) AllReadyIn.nil)
          · go_simp
            refine hK _ _ ?_
            clear hK K
            refine wpAnyIn_ready (rs := [2]) (by kernel_rfl) (by simp) ?_
            refine AllReadyIn.cons rfl (fun K hK => ?_) AllReadyIn.nil
            go_simp
            refine hK _ _ ?_
            clear hK K
            refine wpAnyIn_take (i := 3) (v := ?_) rfl rfl (by kernel_rfl) (by kernel_rfl) (by kernel_rfl) (fun _ _ _ h => h) ⟨Or.inl ⟨by rfl, ?_⟩, fun _ => rfl⟩ ?_
            rotate_left
            · intro _
              first | (go_simp; done) | (go_simp; with_reducible rfl)
            refine wpAnyIn_ready (rs := [4]) (by kernel_rfl) (by simp) ?_
            refine AllReadyIn.cons rfl (fun K hK => ?_) AllReadyIn.nil
            go_simp
            refine hK _ _ ?_
            clear hK K
            refine wpAnyIn_take (i := 7) (v := ?_) rfl rfl (by kernel_rfl) (by kernel_rfl) (by kernel_rfl) (fun _ _ _ h => h) ⟨Or.inl ⟨by rfl, ?_⟩, fun _ => rfl⟩ ?_
            rotate_left
            · intro _
              first | (go_simp; done) | (go_simp; with_reducible rfl)
            refine wpAnyIn_ready (rs := [8]) (by kernel_rfl) (by simp) ?_
            refine AllReadyIn.cons rfl (fun K hK => ?_) AllReadyIn.nil
            go_simp
            refine hK _ _ ?_
            clear hK K
            refine wpAnyIn_ready (rs := [9]) (by kernel_rfl) (by simp) ?_
            refine AllReadyIn.cons rfl (fun K hK => ?_) AllReadyIn.nil
            go_simp
            rw [HR2.out]
            gi_wp2
            refine wpAnyIn_ready (rs := [10]) (by kernel_rfl) (by simp) ?_
            refine AllReadyIn.cons rfl (fun K hK => ?_) AllReadyIn.nil
            go_simp
            refine hK _ _ ?_
            clear hK K
            refine wpAnyIn_done (by kernel_rfl) ?_ _
            exact ⟨rfl, by first | rfl | (rw [hW9]; rfl)⟩
          · go_simp
            refine hK _ _ ?_
            clear hK K
            refine wpAnyIn_take (i := 3) (v := ?_) rfl rfl (by kernel_rfl) (by kernel_rfl) (by kernel_rfl) (fun _ _ _ h => h) ⟨Or.inl ⟨by rfl, ?_⟩, fun _ => rfl⟩ ?_
            rotate_left
            · intro _
              first | (go_simp; done) | (go_simp; with_reducible rfl)
            refine wpAnyIn_ready (rs := [0, 4]) (by kernel_rfl) (by simp) ?_
            refine AllReadyIn.cons rfl (fun K hK => ?_) (AllReadyIn.cons rfl (fun K hK => ?_) AllReadyIn.nil)
            · go_simp
              refine hK _ _ ?_
              clear hK K
              refine wpAnyIn_ready (rs := [4]) (by kernel_rfl) (by simp) ?_
              refine AllReadyIn.cons rfl (fun K hK => ?_) AllReadyIn.nil
              go_simp
              refine hK _ _ ?_
              clear hK K
              refine wpAnyIn_take (i := 7) (v := ?_) rfl rfl (by kernel_rfl) (by kernel_rfl) (by kernel_rfl) (fun _ _ _ h => h) ⟨Or.inl ⟨by rfl, ?_⟩, fun _ => rfl⟩ ?_
              rotate_left
              · intro _
                first | (go_simp; done) | (go_simp; with_reducible rfl)
              refine wpAnyIn_ready (rs := [8]) (by kernel_rfl) (by simp) ?_
              refine AllReadyIn.cons rfl (fun K hK => ?_) AllReadyIn.nil
              go_simp
              refine hK _ _ ?_
              clear hK K
              refine wpAnyIn_ready (rs := [9]) (by kernel_rfl) (by simp) ?_
              refine AllReadyIn.cons rfl (fun K hK => ?_) AllReadyIn.nil
              go_simp
              rw [HR2.out]
              gi_wp2
              refine wpAnyIn_ready (rs := [10]) (by kernel_rfl) (by simp) ?_
              refine AllReadyIn.cons rfl (fun K hK => ?_) AllReadyIn.nil
              go_simp
              refine hK _ _ ?_
              clear hK K
              refine wpAnyIn_done (by kernel_rfl) ?_ _
              exact ⟨rfl, by first | rfl | (rw [hW9]; rfl)⟩
            · go_simp
              refine hK _ _ ?_
              clear hK K
              refine wpAnyIn_take (i := 7) (v := ?_) rfl rfl (by kernel_rfl) (by kernel_rfl) (by kernel_rfl) (fun _ _ _ h => h) ⟨Or.inl ⟨by rfl, ?_⟩, fun _ => rfl⟩ ?_
              rotate_left
              · intro _
                first | (go_simp; done) | (go_simp; with_reducible rfl)
              refine wpAnyIn_ready (rs := [0, 8]) (by kernel_rfl) (by simp) ?_
              refine AllReadyIn.cons rfl (fun K hK => ?_) (AllReadyIn.cons rfl (fun K hK => ?_) AllReadyIn.nil)
              · go_simp
                refine hK _ _ ?_
                clear hK K
                refine wpAnyIn_ready (rs := [8]) (by kernel_rfl) (by simp) ?_
                refine AllReadyIn.cons rfl (fun K hK => ?_) AllReadyIn.nil
                go_simp
                refine hK _ _ ?_
                clear hK K
                refine wpAnyIn_ready (rs := [9]) (by kernel_rfl) (by simp) ?_
                refine AllReadyIn.cons rfl (fun K hK => ?_) AllReadyIn.nil
                go_simp
                rw [HR2.out]
                gi_wp2
                refine wpAnyIn_ready (rs := [10]) (by kernel_rfl) (by simp) ?_
                refine AllReadyIn.cons rfl (fun K hK => ?_) AllReadyIn.nil
                go_simp
                refine hK _ _ ?_
                clear hK K
                refine wpAnyIn_done (by kernel_rfl) ?_ _
                exact ⟨rfl, by first | rfl | (rw [hW9]; rfl)⟩
              · go_simp
                refine hK _ _ ?_
                clear hK K
                refine wpAnyIn_ready (rs := [0]) (by kernel_rfl) (by simp) ?_
                refine AllReadyIn.cons rfl (fun K hK => ?_) AllReadyIn.nil
                go_simp
                refine hK _ _ ?_
                clear hK K
                refine wpAnyIn_ready (rs := [9]) (by kernel_rfl) (by simp) ?_
                refine AllReadyIn.cons rfl (fun K hK => ?_) AllReadyIn.nil
                go_simp
                rw [HR2.out]
                gi_wp2
                refine wpAnyIn_ready (rs := [10]) (by kernel_rfl) (by simp) ?_
                refine AllReadyIn.cons rfl (fun K hK => ?_) AllReadyIn.nil
                go_simp
                refine hK _ _ ?_
                clear hK K
                refine wpAnyIn_done (by kernel_rfl) ?_ _
                exact ⟨rfl, by first | rfl | (rw [hW9]; rfl)⟩
        · rintro e' a' w9 ⟨rfl, rfl⟩
          rw [← hW9]
          simp only [Exit.inBlock]
          exact ⟨HM2.out.2.2.1, HM2.out.2.1, HM2.out.1, HM2.out.2.2.2⟩
      · obtain ⟨q0, q1, q2, q3, q4⟩ := HV.out V2 hk2
        obtain ⟨i1, i2, i3, i5, i6, hkI, hcnt, hWsz, hpl⟩ := HI.out
        obtain ⟨hXe, hXlt, hsB, hsz, hB, hB1, hB2, hB3, hB4, hB5, hB6⟩ := HX.out
        have c2 : V2.cell? ⟨B2, 0, none⟩ = some (.slice none 0 0) := by simp [World.cell?, q2]
        have f2 : V2.frozen? ⟨B2, 0, none⟩ = false := by simp [World.frozen?, q2]
        have c3 : V2.cell? ⟨B3, 0, none⟩ = some (.int .i64 0) := by simp [World.cell?, q3]
        have f3 : V2.frozen? ⟨B3, 0, none⟩ = false := by simp [World.frozen?, q3]
        have hS : (KeepsFrom W0.heap.size W ((V2.setCell ⟨B2, 0, none⟩ (.slice none 0 0)).setCell ⟨B3, 0, none⟩ (.int .i64 6))) ∧ AnX W0 s room B2 B3 lv m D X N l .ret (pre ++ [x]) ((V2.setCell ⟨B2, 0, none⟩ (.slice none 0 0)).setCell ⟨B3, 0, none⟩ (.int .i64 6)) := by
          have hfar : ∀ k, k ≠ B2 → k ≠ B3 → ((V2.setCell ⟨B2, 0, none⟩ (.slice none 0 0)).setCell ⟨B3, 0, none⟩ (.int .i64 6)).heap[k]? = V2.heap[k]? := fun k e1 e2 => (heap_setCell_other _ _ _ _ (by simpa using e2)).trans (heap_setCell_other _ _ _ _ (by simpa using e1))
          have hnot : ∀ k, D2 k → k ≠ B2 ∧ k ≠ B3 := fun k hd => by
            rcases hD2 k hd with h | h
            · rcases i3 k h with h | h
              · have := H.out.1.lt k h; rw [hB] at this; omega
              · omega
            · omega
          have hs2 := hk2.size
          refine ⟨⟨by simpa using hs2, fun k o hBk ho hc => ?_⟩, rfl, pre, x, rfl, ⟨fun k => D2 k ∧ IsC V2 k, ?_, fun k hd => hd.2.eq (hfar k (hnot k hd.1).1 (hnot k hd.1).2), fun k hd => ?_⟩, ?_, hcnt, ?_, ?_, ?_⟩
          · have hkl := (Array.getElem?_eq_some_iff.1 ho).1
            exact (hfar k (by omega) (by omega)).trans ((hk2.block k ⟨hkl, by omega⟩).trans ho)
          · exact hsh.cells.kept ⟨rfl, rfl, rfl, by simp, fun k hd => hfar k (hnot k hd.1).1 (hnot k hd.1).2⟩
          · rcases hD2 k hd.1 with h | h
            · exact i3 k h
            · exact .inr (by omega)
          · rw [List.length_append, nodesP_length] at hroom; exact hroom
          · rw [heap_setCell_other _ _ _ _ (by simp; omega), heap_setCell_same _ _ _ _ _ _ q2]; rfl
          · have : (V2.setCell ⟨B2, 0, none⟩ (.slice none 0 0)).heap[B3]? = _ := (heap_setCell_other _ _ _ _ (by simp; omega)).trans q3
            rw [heap_setCell_same _ _ _ _ _ _ this]; rfl
          · refine (hkI.mono fun k hk => hk.1).trans ⟨hk2.os, hk2.tape, hk2.output, by simpa using hs2, fun k hk => ?_⟩
            have := hk.1
            rw [hXe] at this
            exact (hfar k hk.2.1 hk.2.2).trans (hk2.block k ⟨by omega, this.2.1⟩)
        have HS := Lib.hid hS
        have hB23 : ¬ B2 = B3 := by omega
        have hB32 : ¬ B3 = B2 := by omega
        clear hS CA CL HV hI0 hstops hpre hF HI HP HM HX HB HR9 hXl2 hsz2 c0 c1' q0 q1 q2 q3 q4 i1 i2 i3 i5 i6 hkI hcnt hWsz hpl hXe hXlt hsB hsz hB hB1 hB2 hB3 hB4 hB5 hB6 hsh hD2 hk2 hroom
        simp only [Exit.then]
        gi_wp2
        exact HS.out
  case done =>
    rintro Dd ys W hDd rfl ⟨hI, hcnt⟩ hK
    obtain ⟨⟨D1, a1, c1, i1, i2, i3, i4, i5, i6⟩, hkI⟩ := hI
    obtain ⟨h, ha, hps, hcap, hcm, hne, _, _, hl, _⟩ := H.out
    obtain ⟨hXe, hXlt, hsB, hsz, hB, hB1, hB2, hB3, hB4, hB5, hB6⟩ := HX.out
    have d2 : W.heap[B2]? = _ := (hkI.block B2 (by rw [hXe]; exact ⟨by omega, by omega, by omega⟩)).trans HB.out.2.2.1
    have d3 : W.heap[B3]? = _ := (hkI.block B3 (by rw [hXe]; exact ⟨by omega, by omega, by omega⟩)).trans HB.out.2.2.2.1
    have q4 : W.cell? ⟨B4, 0, none⟩ = some (.slice a1 (leadsP N.length m l (firstJ m l.length (partsOf m l.length))).length c1) := by simp [World.cell?, i4]
    have c2 : W.cell? ⟨B2, 0, none⟩ = some (.slice none 0 0) := by simp [World.cell?, d2]
    have f2 : W.frozen? ⟨B2, 0, none⟩ = false := by simp [World.frozen?, d2]
    have c3 : W.cell? ⟨B3, 0, none⟩ = some (.int .i64 0) := by simp [World.cell?, d3]
    have f3 : W.frozen? ⟨B3, 0, none⟩ = false := by simp [World.frozen?, d3]
    have hB23 : ¬ B2 = B3 := by omega
    have hB32 : ¬ B3 = B2 := by omega
    obtain ⟨hall1, hall2⟩ := firstJ_all (l := l) hm N.length lv _ (Nat.le_refl _)
    have hall2l : (leadsP N.length m l (firstJ m l.length (partsOf m l.length))).length = partsOf m l.length := by rw [hall2, leadsOf_length]
    rw [hall2l] at i4 i5 q4
    obtain ⟨K, hKe⟩ : ∃ K, partsOf m l.length = K := ⟨_, rfl⟩
    rw [hKe] at i4 i5 q4 hall1 hall2 hcnt
    rw [firstJ_length hm K (by omega)] at hcnt
    have hfit : N.length + K ≤ min room 511 := by
      rcases hcnt with h0 | h0
      · rw [h0]; exact hNc
      · exact h0
    have hNM : nodesM (min room 511) lv m l N = (some (leadsOf N.length m l K), N ++ nodesOf lv m l K) := by
      unfold nodesM
      rw [hKe, if_pos hfit]
    have HNM := Lib.hid hNM
    rw [hKe] at i1 i6
    rw [hall1] at i1
    have hend := fun Wf o u hW => an_end (Wf := Wf) (o := o) (u := u) (v0 := 0) (R := B2) (E := B3) (Dd := Dd) hk0 (by omega) (fun k h1 h2 => by rw [hXe]; exact ⟨by omega, h2, by omega⟩) h.lt ⟨by omega, by omega⟩ ⟨by omega, by omega⟩ i1 i2 i3 hkI hK hDd hW
    have hKd : ((W.setCell ⟨B2, 0, none⟩ (.slice a1 K c1)).setCell ⟨B3, 0, none⟩ (.int .i64 0)).heap[Dd]? = some (.deferred (some [])) := (heap_setCell_other _ _ _ _ (by simp; omega)).trans ((heap_setCell_other _ _ _ _ (by simp; omega)).trans hK)
    have hb2 : ((W.setCell ⟨B2, 0, none⟩ (.slice a1 K c1)).setCell ⟨B3, 0, none⟩ (.int .i64 0)).heap[B2]? = some (.cells #[.slice a1 K c1] 25 (0, 0)) := by
      rw [heap_setCell_other _ _ _ _ (by simp; omega), heap_setCell_same _ _ _ _ _ _ d2]; rfl
    have hb3 : ((W.setCell ⟨B2, 0, none⟩ (.slice a1 K c1)).setCell ⟨B3, 0, none⟩ (.int .i64 0)).heap[B3]? = some (.cells #[.int .i64 0] 32 (0, 0)) := by
      have : (W.setCell ⟨B2, 0, none⟩ (.slice a1 K c1)).heap[B3]? = _ := (heap_setCell_other _ _ _ _ (by simp; omega)).trans d3
      rw [heap_setCell_same _ _ _ _ _ _ this]; rfl
    have HE := Lib.hid (And.intro i5 (And.intro hall2 (And.intro hend (And.intro hKd (And.intro hb2 (And.intro hb3 (And.intro hk0.size (And.intro hDd hsz))))))))
    have HBx := Lib.hid (show B2 < W0.heap.size ∧ B3 < W0.heap.size by omega)
    have hKl : K = K := rfl
    clear h ha hps hcap hcm hne hl hXe hXlt hsB hsz hB hB1 hB2 hB3 hB4 hB5 hB6 i1 i2 i3 i4 i5 i6 hkI hcnt hall1 hall2 hall2l hend hKd hb2 hb3 hstops hI0 hK hNM hfit hKe hNc HX HB hXl2 hsz2 d2 d3 H
    gi_wp2
    refine ⟨by simp, .inl ⟨_, _, rfl, run_takeDeferred HE.out.2.2.2.1, ?_⟩⟩
    obtain ⟨Wf, hWf⟩ : ∃ Wf, ((W.setCell ⟨B2, 0, none⟩ (.slice a1 K c1)).setCell ⟨B3, 0, none⟩ (.int .i64 0)).putObj Dd (.deferred none) = Wf := ⟨_, rfl⟩
    obtain ⟨hA, hblk⟩ := HE.out.2.2.1 Wf _ _ hWf
    have g2 : Wf.cell? ⟨B2, 0, none⟩ = some (.slice a1 K c1) := by
      have : Wf.heap[B2]? = some (.cells #[.slice a1 K c1] 25 (0, 0)) := by rw [← hWf]; exact (World.putObj_heap_other (by have := HBx.out; omega)).trans HE.out.2.2.2.2.1
      simp [World.cell?, this]
    have g3 : Wf.cell? ⟨B3, 0, none⟩ = some (.int .i64 0) := by
      have : Wf.heap[B3]? = some (.cells #[.int .i64 0] 32 (0, 0)) := by rw [← hWf]; exact (World.putObj_heap_other (by have := HBx.out; omega)).trans HE.out.2.2.2.2.2.1
      simp [World.cell?, this]
    rw [hWf]
    refine ⟨.tuple #[.slice a1 K c1, .int .i64 0], ?_, ?_⟩
    · simp [results, Try.f44, go_sem, g2, g3]
    · rw [HNM.out]
      refine ⟨⟨a1, c1, by rw [leadsOf_length], ?_⟩, hA⟩
      rw [leadsOf_length, ← HE.out.2.1]
      refine row_weaken (rowS_block HE.out.1 fun g e => ?_) HE.out.2.2.2.2.2.2.1
      have h1 := (rowS_lt HE.out.1 g e).1
      have h2 := HBx.out
      refine hblk g ?_ (by omega) (by omega)
      rcases HE.out.1.2 with ⟨e1, _⟩ | ⟨g1, cap1, cur, e1, _, hc, _⟩
      · rw [e1] at e; cases e
      · rw [e1] at e
        simp only [Value.ownBlock, Option.some.injEq] at e
        subst e
        exact ⟨_, _, _, hc⟩
  case stop =>
    rintro Dd c pre W hDd ⟨q, hq, rfl⟩ ⟨rfl, ini, last, e1, ⟨D', i1, i2, i3⟩, h4, h5, h6, h7, hkI⟩ hK
    obtain ⟨h, ha, hps, hcap, hcm, hne, _, _, hl, _⟩ := H.out
    obtain ⟨hXe, hXlt, hsB, hsz, hB, hB1, hB2, hB3, hB4, hB5, hB6⟩ := HX.out
    rw [firstJ_succ ((parts_lt hm).1 hq)] at e1
    obtain ⟨rfl, _⟩ := List.append_inj' e1 rfl
    have hini : (firstJ m l.length q).length = q := firstJ_length hm q (by omega)
    obtain ⟨hall1, hall2⟩ := firstJ_all (l := l) hm N.length lv q (by omega)
    rw [hini] at h4 h5
    rw [hall1] at i1
    have hqc : min room 511 - N.length = q := by
      rcases h5 with h0 | h0 <;> omega
    have hNM : nodesM (min room 511) lv m l N = (none, N ++ nodesOf lv m l q) := by
      unfold nodesM
      rw [if_neg (by omega), hqc]
    obtain ⟨Wf, hWf⟩ : ∃ Wf, W.putObj Dd (.deferred none) = Wf := ⟨_, rfl⟩
    have hA : AddTo w s room D (N ++ nodesOf lv m l q) Wf := an_stop (R := B2) (E := B3) (Dd := Dd) hk0 (by omega) (X := fun k => X k ∧ k ≠ B2 ∧ k ≠ B3) (fun k h1 h2 => by rw [hXe]; exact ⟨⟨by omega, h2, by omega⟩, by omega, by omega⟩) i1 i2 i3 hkI hK hDd hWf
    have g2 : Wf.cell? ⟨B2, 0, none⟩ = some (.slice none 0 0) := by
      have : Wf.heap[B2]? = some (.cells #[.slice none 0 0] 25 (0, 0)) := by rw [← hWf]; exact (World.putObj_heap_other (by omega)).trans h6
      simp [World.cell?, this]
    have g3 : Wf.cell? ⟨B3, 0, none⟩ = some (.int .i64 6) := by
      have : Wf.heap[B3]? = some (.cells #[.int .i64 6] 32 (0, 0)) := by rw [← hWf]; exact (World.putObj_heap_other (by omega)).trans h7
      simp [World.cell?, this]
    have HA := Lib.hid (And.intro hA hNM)
    have HK := Lib.hid hK
    clear hA hNM hK hkI i1 i2 i3 h4 h5 h6 h7 hall1 hall2 hqc hini h ha hps hcap hcm hne hl hXe hXlt hsB hsz hB hB1 hB2 hB3 hB4 hB5 hB6 hstops hI0 H HX HB hXl2 hsz2 e1
    gi_wp2
    refine ⟨by simp, .inl ⟨_, _, rfl, run_takeDeferred HK.out, ?_⟩⟩
    rw [hWf]
    refine ⟨.tuple #[.slice none 0 0, .int .i64 6], ?_, ?_⟩
    · simp [results, Try.f44, go_sem, g2, g3]
    · rw [HA.out.2]
      exact ⟨rfl, HA.out.1⟩

end Go.Proofs.Ytjollbaohopmjaa
/- Package tree's addParted, pile. -/
set_option linter.unusedVariables false
namespace Go.Proofs.Ytjollbaohopmjaa
open Go.RowKit

theorem pt_gt (n : Nat) (h : 15 < n) : (15 : Int) < (n : Int) ∧ ¬ ((n : Int) ≤ 15) := by omega
theorem pt_le (n : Nat) (h : n ≤ 15) : ¬ ((15 : Int) < (n : Int)) ∧ (n : Int) ≤ 15 := by omega

/-- A row of pairs of one's own, or none, as a list to be added. -/
def ListOk2 (w : World) (s : Nat) (a : Option Addr) (cap : Nat) (l : Pairs) : Prop := IsPs w a l ∧ l.length ≤ cap ∧ cap ≤ maxLen ∧ ∃ b off, b ≠ s ∧ (0 < l.length → a = some ⟨b, off, none⟩)
theorem ListOk2.old {w W : World} {s : Nat} {a : Option Addr} {cap : Nat} {l : Pairs} (h : ListOk2 w s a cap l) (hk : KeptIn (· < w.heap.size) w W) : ListOk2 W s a cap l := ⟨h.1.old hk, h.2⟩

theorem trNodes2 {w : World} {s room : Nat} {N : List Nd} {D : Nat → Prop} (h : IsSh w s room N D) (lv m cap : Nat) (a : Option Addr) (l : Pairs) (hl : ListOk2 w s a cap l) (hm : 0 < m) (hm15 : m ≤ 15) (hl2 : l.length ≤ 1000) (hNc : N.length ≤ min room 511) :
    Calls Try.prog 44 #[pgV s, .int .i64 (lv : Int), .slice a l.length cap, .int .i64 (m : Int)] w (NodesS w s room D (nodesM (min room 511) lv m l N)) := by
  obtain ⟨h1, h2, h3, b, off, h4, h5⟩ := hl
  exact trNodes h lv m b off cap a l h5 h1 h2 h3 h4 hm hm15 hl2 hNc

theorem NodesS.from {w0 w : World} {s room : Nat} {D : Nat → Prop} {r : Option Pairs × List Nd} {e : Ending} {w' : World} (hk : KeptIn (· < w0.heap.size) w0 w) (h : NodesS w s room D r e w') : NodesS w0 s room D r e w' := by
  refine ⟨?_, h.2.from hk⟩
  have h1 := h.1
  unfold ResL at h1 ⊢
  split at h1
  · obtain ⟨a, cap, h2, h3⟩ := h1
    exact ⟨a, cap, h2, row_weaken h3 hk.size⟩
  · exact h1

/-- What comes back of nodes as values. -/
theorem nodesS_val {w : World} {s room : Nat} {D : Nat → Prop} {r : Option Pairs × List Nd} {e : Ending} {w' : World} (h : NodesS w s room D r e w') :
    ∃ (a : Option Addr) (n cap : Nat) (er : Nat), e = .returned (.tuple #[.slice a n cap, .int .i64 (er : Int)]) ∧ AddTo w s room D r.2 w' ∧ (er = 0 ↔ r.1.isSome) ∧ (er ≠ 0 → er = 6) := by
  obtain ⟨h1, h2⟩ := h
  unfold ResL at h1
  split at h1
  · rename_i ls e1
    obtain ⟨a, cap, h3, h4⟩ := h1
    exact ⟨a, _, cap, 0, h3, h2, by simp [e1], fun h => absurd rfl h⟩
  · rename_i e1
    exact ⟨none, 0, 0, 6, h1, h2, by simp [e1], fun _ => rfl⟩

set_option maxRecDepth 100000 in
theorem trParted {w : World} {s room : Nat} {N : List Nd} {D : Nat → Prop} (h : IsSh w s room N D) (lv cap : Nat) (a : Option Addr) (l : Pairs) (hl : ListOk2 w s a cap l) (hl2 : l.length ≤ 1000) (hNc : N.length ≤ min room 511) :
    Calls Try.prog 26 #[pgV s, leafV (lv : Int) a l.length cap] w (NodesS w s room D (partM (min room 511) lv l N)) := by
  obtain ⟨W, hW⟩ : ∃ W, w.alloc (.cells #[.int .i64 (lv : Int), .slice a l.length cap] 27) = W := ⟨_, rfl⟩
  have hk : KeptIn (· < w.heap.size) w W := by rw [← hW]; exact (KeptIn.refl _ w).alloc (fun _ h => h) _
  have hb : BoxL w.heap.size (lv : Int) a l.length cap W := by rw [← hW]; exact BoxL.new w _ _ _ _
  have c0 := hb.c0
  have c1 := hb.c1
  have HK := Lib.hid hk
  unfold partM
  by_cases h15 : 15 < l.length
  · have C := trNodes2 (h.old hk) lv 8 cap a l (hl.old hk) (by omega) (by omega) hl2 hNc
    obtain ⟨z1, z2⟩ := pt_gt _ h15
    rw [if_pos h15]
    obtain ⟨R, hR⟩ : ∃ R, nodesM (min room 511) lv 8 l N = R := ⟨_, rfl⟩
    rw [hR] at C ⊢
    obtain ⟨n, hn⟩ : ∃ n, l.length = n := ⟨_, rfl⟩
    rw [hn] at C c1 hW z1 z2 ⊢
    have HC := Lib.hid C
    unfold pgV leafV at *
    clear C h hl hl2 hNc hk hb hR hn h15
    go_enter Try.func26, Try.ntmps26
    go_wp2_with (go_at_call 44; refine HC.out.mono ?_; rintro e V hS; obtain ⟨a9, n9, c9, er, rfl, hA, hB, hC⟩ := nodesS_val hS; have HS := Lib.hid hS; clear hS hA hB hC)
    go_ret2
    exact HS.out.from HK.out
  · have C := trNodes2 (h.old hk) lv 15 cap a l (hl.old hk) (by omega) (by omega) hl2 hNc
    obtain ⟨z1, z2⟩ := pt_le l.length (by omega)
    rw [if_neg h15]
    obtain ⟨R, hR⟩ : ∃ R, nodesM (min room 511) lv 15 l N = R := ⟨_, rfl⟩
    rw [hR] at C ⊢
    obtain ⟨n, hn⟩ : ∃ n, l.length = n := ⟨_, rfl⟩
    rw [hn] at C c1 hW z1 z2 ⊢
    have HC := Lib.hid C
    unfold pgV leafV at *
    clear C h hl hl2 hNc hk hb hR hn h15
    go_enter Try.func26, Try.ntmps26
    go_wp2_with (go_at_call 44; refine HC.out.mono ?_; rintro e V hS; obtain ⟨a9, n9, c9, er, rfl, hA, hB, hC⟩ := nodesS_val hS; have HS := Lib.hid hS; clear hS hA hB hC)
    go_ret2
    exact HS.out.from HK.out

end Go.Proofs.Ytjollbaohopmjaa
/- Package tree's pile. -/
set_option linter.unusedVariables false
namespace Go.Proofs.Ytjollbaohopmjaa
open Go.RowKit

/-- A page comes back, or that there is no room. -/
def PageS (w : World) (s room : Nat) (D : Nat → Prop) (r : Option Nat × List Nd) (e : Ending) (w' : World) : Prop :=
  (∃ p er : Nat, e = .returned (.tuple #[.int .i64 (p : Int), .int .i64 (er : Int)]) ∧ (match r.1 with | some q => p = q ∧ er = 0 | none => p = 0 ∧ er = 6)) ∧ AddTo w s room D r.2 w'
theorem PageS.from {w0 w : World} {s room : Nat} {D : Nat → Prop} {r : Option Nat × List Nd} {e : Ending} {w' : World} (hk : KeptIn (· < w0.heap.size) w0 w) (h : PageS w s room D r e w') : PageS w0 s room D r e w' := ⟨h.1, h.2.from hk⟩

theorem AddTo.trans {w V W : World} {s room : Nat} {D D' : Nat → Prop} {N' : List Nd} (hD' : ∀ k, D' k → D k ∨ w.heap.size ≤ k) (hk : KeptIn (fun k => k < w.heap.size ∧ k ≠ s) w V) (h : AddTo V s room D' N' W) : AddTo w s room D N' W := by
  obtain ⟨D2, h1, h2, h3⟩ := h
  exact ⟨D2, h1, fun k hd => by
    rcases h2 k hd with h | h
    · exact hD' k h
    · exact .inr (Nat.le_trans hk.size h), hk.trans (h3.mono fun k h => ⟨Nat.lt_of_lt_of_le h.1 hk.size, h.2⟩)⟩

/-- Leads as a list to be added. -/
theorem row_listOk {W : World} {s B cap : Nat} {a : Option Addr} {l : Pairs} (h : W.ownsRow B 75 2 (.slice a l.length cap) l.length (cellsP l)) (hf : Fits l) (hs : s < B) : ListOk2 W s a cap l := by
  refine ⟨row_IsPs h hf, ?_⟩
  rcases h.2 with ⟨e, h0⟩ | ⟨g, cap1, cur, e, hg, _, h1, h2, _⟩
  · simp only [Value.slice.injEq] at e
    obtain ⟨rfl, _, rfl⟩ := e
    exact ⟨by omega, Nat.zero_le _, s + 1, 0, by omega, fun h => by omega⟩
  · simp only [Value.slice.injEq, true_and] at e
    obtain ⟨rfl, rfl⟩ := e
    exact ⟨h1, h2, g, 0, by omega, fun _ => rfl⟩

theorem nodesM_some {c lv m : Nat} {l : Pairs} {N : List Nd} {ls : Pairs} {N1 : List Nd} (h : nodesM c lv m l N = (some ls, N1)) : ls = leadsOf N.length m l (partsOf m l.length) ∧ N1 = N ++ nodesOf lv m l (partsOf m l.length) ∧ N.length + partsOf m l.length ≤ c := by
  unfold nodesM at h
  split at h
  · rename_i hf
    obtain ⟨h1, h2⟩ := Prod.mk.inj h
    exact ⟨(Option.some.inj h1).symm, h2.symm, hf⟩
  · cases (Prod.mk.inj h).1
theorem nodesM_none {c lv m : Nat} {l : Pairs} {N : List Nd} {N1 : List Nd} (h : nodesM c lv m l N = (none, N1)) : c < N.length + partsOf m l.length ∧ N1 = N ++ nodesOf lv m l (c - N.length) := by
  unfold nodesM at h
  split at h
  · cases (Prod.mk.inj h).1
  · rename_i hf
    exact ⟨by omega, (Prod.mk.inj h).2.symm⟩
theorem leadsOf_fits {n m : Nat} {l : Pairs} {k : Nat} (hf : Fits l) (hn : n + k ≤ 100000) (hk : ∀ j, j < k → m * j < l.length) : Fits (leadsOf n m l k) := by
  intro p hp
  unfold leadsOf at hp
  rw [List.mem_map] at hp
  obtain ⟨j, hj, rfl⟩ := hp
  have hj := List.mem_range.1 hj
  exact ⟨(hf.at (hk j hj)).1, by show n + j + 1 < _; omega⟩

theorem pl_nums (n : Nat) (h : 0 < n) (h2 : n ≤ 1000) : (0 : Int) < (n : Int) ∧ ¬ ((n : Int) ≤ 0) ∧ 0 < n := by omega
theorem pl_one (n : Nat) : (((n : Int) == 1) = decide (n = 1)) := by
  by_cases h : n = 1
  · simp [h]
  · rw [decide_eq_false h, beq_eq_false_iff_ne]; omega

/-- Between two rounds. -/
def PlI (w : World) (s room : Nat) (D : Nat → Prop) (R : Option Nat × List Nd) (lv : Int) (v : Value) (W : World) : Prop :=
  ∃ (k f : Nat) (l : Pairs) (N : List Nd) (D' : Nat → Prop) (a : Option Addr) (cap : Nat), lv = (k : Int) ∧ v = .slice a l.length cap ∧ k + l.length ≤ 2000 ∧ pileM (min room 511) f k l N = R ∧ l.length ≤ f ∧ l.length ≤ 1000 ∧ ListOk2 W s a cap l ∧ IsSh W s room N D' ∧ N.length ≤ min room 511 ∧ (∀ k, D' k → D k ∨ w.heap.size ≤ k) ∧ KeptIn (fun k => k < w.heap.size ∧ k ≠ s) w W

set_option maxRecDepth 100000 in
set_option maxHeartbeats 2000000 in
theorem trPile {w : World} {s room : Nat} {N : List Nd} {D : Nat → Prop} (h : IsSh w s room N D) (lv cap f : Nat) (a : Option Addr) (l : Pairs) (hl : ListOk2 w s a cap l) (hl2 : l.length ≤ 1000) (hlv : lv ≤ 1000) (hNc : N.length ≤ min room 511) (hf : l.length ≤ f) :
    Calls Try.prog 27 #[pgV s, .int .i64 (lv : Int), .slice a l.length cap] w (PageS w s room D (pileM (min room 511) f lv l N)) := by
  obtain ⟨R, hR⟩ : ∃ R, pileM (min room 511) f lv l N = R := ⟨_, rfl⟩
  have HI0 : Hid (PlI w s room D R (lv : Int) (.slice a l.length cap) w) := Lib.hid ⟨lv, f, l, N, D, a, cap, rfl, rfl, by omega, hR, hf, hl2, hl, h, hNc, fun k hk => .inl hk, KeptIn.refl _ _⟩
  have hsw := h.lt s h.ds
  rw [hR]
  unfold pgV
  clear hR hl hl2 hlv hNc hf h
  obtain ⟨n, hn⟩ : ∃ n, l.length = n := ⟨_, rfl⟩
  rw [hn] at HI0 ⊢
  clear hn
  go_enter Try.func27, Try.ntmps27
  go_wp2_with fail
  go_loopw [1, 2] (fun x v wr => ∃ (W : World) (y : Int) (v0 : Value), W = wr ∧ x = .int .i64 y ∧ v0 = v ∧ Hid (PlI w s room D R y v0 W)) (fun _ v _ => slLen v)
  case atStart => exact ⟨_, _, _, rfl, rfl, rfl, HI0⟩
  case round =>
    obtain ⟨W, y, v0, rfl, rfl, rfl, HJ⟩ := hrel
    clear HI0
    obtain ⟨k, f, l, N, D', a, cap, rfl, rfl, hkl, hR, hf, hl2, hl, h, hNc, hD', hkw⟩ := HJ.out
    rcases Nat.eq_zero_or_pos l.length with h0 | h0
    · have hRR : R = (some 0, N) := by
        rw [← hR]
        cases f with
        | zero => rfl
        | succ f => unfold pileM; rw [if_pos h0]
      have HA : Hid (AddTo w s room D N W) := Lib.hid ⟨D', h, hD', hkw⟩
      subst hRR
      rw [h0]
      clear HJ hR hl h hNc hD' hkw
      go_wp2_with fail
      go_ret2
      exact ⟨⟨0, 0, rfl, rfl, rfl⟩, HA.out⟩
    · obtain ⟨f, rfl⟩ : ∃ f', f = f' + 1 := ⟨f - 1, by omega⟩
      obtain ⟨z1, z2, z3⟩ := pl_nums l.length h0 hl2
      have C := trNodes2 h k 15 cap a l hl (by omega) (by omega) hl2 hNc
      have hR' := hR
      unfold pileM at hR'
      rw [if_neg (by omega)] at hR'
      have hsW : s < W.heap.size := Nat.lt_of_lt_of_le hsw hkw.size
      cases hM : nodesM (min room 511) k 15 l N with
      | mk o1 N1 =>
        rw [hM] at C hR'
        have HF := Lib.hid (And.intro hD' (And.intro hkw (And.intro hsW (And.intro hl.1.fits (And.intro hf (And.intro hkl hNc))))))
        have HLN := Lib.hid hl2
        clear HJ hR hl h hNc hD' hkw hf hkl hl2
        cases o1 with
        | none =>
          dsimp only at hR'
          subst hR'
          have HC := Lib.hid (Calls.mono C (R' := fun e w' => e = .returned (.tuple #[.slice none 0 0, .int .i64 6]) ∧ AddTo W s room D' N1 w') fun e w' h => h)
          unfold pgV at HC
          clear C hM
          go_wp2_with (go_at_call 44; refine HC.out.mono ?_; rintro e V ⟨rfl, hA⟩; have HA := Lib.hid hA; clear hA)
          go_ret2
          exact ⟨⟨0, 6, rfl, rfl, rfl⟩, AddTo.trans HF.out.1 HF.out.2.1 HA.out⟩
        | some ls =>
          obtain ⟨hls, hN1, hfit⟩ := nodesM_some hM
          have HC := Lib.hid (Calls.mono C (R' := fun e w' => ∃ a cap, e = .returned (.tuple #[.slice a ls.length cap, .int .i64 0]) ∧ w'.ownsRow W.heap.size 75 2 (.slice a ls.length cap) ls.length (cellsP ls) ∧ AddTo W s room D' N1 w') fun e w' h => by
            obtain ⟨⟨a, cap, h1, h2⟩, h3⟩ := h
            exact ⟨a, cap, h1, h2, h3⟩)
          have hlsl : ls.length = partsOf 15 l.length := by rw [hls, leadsOf_length]
          have hfits : Fits ls := by
            rw [hls]
            exact leadsOf_fits HF.out.2.2.2.1 (by omega) fun j hj => (parts_lt (by omega)).1 hj
          have HL := Lib.hid (And.intro hls (And.intro hN1 (And.intro hfit (And.intro hlsl hfits))))
          have hp1 := pl_one ls.length
          obtain ⟨n, hn⟩ : ∃ n, ls.length = n := ⟨_, rfl⟩
          rw [hn] at HC hp1
          have HN := Lib.hid hn
          unfold pgV at HC
          clear C hM hls hN1 hfit hlsl hfits hn
          dsimp only at hR'
          by_cases hone : ls.length = 1
          · rw [if_pos hone] at hR'
            have hn1 : n = 1 := by rw [← HN.out]; exact hone
            have q0 : 0 < n := by omega
            have q1 : (0 : Int) < (n : Int) := by omega
            rw [decide_eq_true hn1] at hp1
            have hval : valAt ls 0 = N.length + 1 := by
              rw [HL.out.1]
              have : partsOf 15 l.length = 1 := by rw [← HL.out.2.2.2.1]; exact hone
              rw [this]; simp [leadsOf, valAt, List.range, List.range.loop]
            obtain ⟨v, hv⟩ : ∃ v, valAt ls 0 = v := ⟨_, rfl⟩
            have hv511 : v ≤ 511 := by
              have h1 := HL.out.2.2.1
              have h2 : partsOf 15 l.length = 1 := by rw [← HL.out.2.2.2.1]; exact hone
              omega
            obtain ⟨u1, u2⟩ := to_page v hv511
            subst hR'
            have HV := Lib.hid hv
            clear hval hv hv511 hone hn1
            go_wp2_with (go_at_call 44; refine HC.out.mono ?_; rintro e V ⟨a9, c9, rfl, hrow, hA⟩; obtain ⟨b9, o9, rfl, hb9, hc9⟩ := (row_IsPs (qs := ls) (by rw [HN.out]; exact hrow) HL.out.2.2.2.2).cells (by rw [HN.out]; exact q0); have x1 := (hc9 0 (by rw [HN.out]; exact q0)).2; rw [HV.out, Nat.zero_mul, Nat.add_zero] at x1; have HA := Lib.hid hA; clear hA hrow hc9 hb9)
            go_ret2
            exact ⟨⟨v, 0, rfl, HV.out.symm, rfl⟩, AddTo.trans HF.out.1 HF.out.2.1 HA.out⟩
          · rw [if_neg hone] at hR'
            have hn1 : ¬ n = 1 := by rw [← HN.out]; exact hone
            rw [decide_eq_false hn1] at hp1
            have hk1 : wrap64 ((k : Int) + 1) = ((k + 1 : Nat) : Int) := by have := HF.out.2.2.2.2.2.1; unfold wrap64; omega
            have HK1 := Lib.hid hk1
            clear hone hn1 hk1
            go_wp2_with (go_at_call 44; refine HC.out.mono ?_; rintro e V ⟨a9, c9, rfl, hrow, hA⟩; have HA := Lib.hid (And.intro hrow hA); clear hA hrow)
            rw [HK1.out]
            have hlt : ls.length < l.length := by
              have h1 := HL.out.2.2.2.1
              have h2 : ls.length ≠ 1 := by rw [HN.out]; exact fun e => by rw [e] at hp1; simp at hp1
              unfold partsOf at h1
              omega
            obtain ⟨D2, g1, g2, g3⟩ := HA.out.2
            have HJ2 : Hid (PlI w s room D R ((k + 1 : Nat) : Int) (.slice a9 n c9) V) := Lib.hid (by
              refine ⟨k + 1, f, ls, N1, D2, a9, c9, rfl, by rw [HN.out], by have := HF.out.2.2.2.2.2.1; omega, hR', by have := HF.out.2.2.2.2.1; omega, by have := HLN.out; omega, ?_, g1, by rw [HL.out.2.1, List.length_append, nodesOf_length]; exact HL.out.2.2.1, fun k hd => ?_, HF.out.2.1.trans (g3.mono fun k h => ⟨Nat.lt_of_lt_of_le h.1 HF.out.2.1.size, h.2⟩)⟩
              · have := HA.out.1
                rw [← HN.out] at this
                exact row_listOk this HL.out.2.2.2.2 HF.out.2.2.1
              · rcases g2 k hd with h | h
                · exact HF.out.1 k h
                · exact .inr (Nat.le_trans HF.out.2.1.size h))
            have HLT := Lib.hid (And.intro hlt HN.out)
            clear hlt g1 g2 g3 HA HC
            go_wp2_with fail
            go_roundw
            case rel => exact ⟨_, _, _, rfl, rfl, rfl, HJ2⟩
            case measure => have := HLT.out; simp [slLen]; omega

end Go.Proofs.Ytjollbaohopmjaa
/- Package tree's step.with, of the tree without pairs. -/
set_option linter.unusedVariables false
namespace Go.Proofs.Ytjollbaohopmjaa
open Go.RowKit

set_option maxRecDepth 100000 in
set_option maxHeartbeats 1000000 in
theorem trWithNil (lv : Int) (al : Nat) (aL : Option Addr) (xs : Pairs) (w : World) (hL : IsPs w aL xs) (hl2 : xs.length ≤ 1000) (hE : EmpOk aL xs.length al) :
    Calls Try.prog 39 #[stepV lv none 0 0 0 0, .slice aL xs.length al] w (WithS w lv xs) := by
  obtain ⟨n, hn⟩ : ∃ n, n = 0 := ⟨_, rfl⟩
  obtain ⟨cap, hcap⟩ : ∃ n, n = 0 := ⟨_, rfl⟩
  obtain ⟨fr, hfr⟩ : ∃ n, n = 0 := ⟨_, rfl⟩
  obtain ⟨to, hto⟩ : ∃ n, n = 0 := ⟨_, rfl⟩
  obtain ⟨a, ha⟩ : ∃ a : Option Addr, a = none := ⟨_, rfl⟩
  obtain ⟨W, hW⟩ : ∃ W, (w.alloc (.cells #[.int .i64 lv, .slice a n cap, .int .i64 (fr : Int), .int .i64 (to : Int)] 81)).alloc (.cells #[.int .i64 0, .slice none 0 0] 27) = W := ⟨_, rfl⟩
  have hkW : KeptIn (· < w.heap.size) w W := by rw [← hW]; exact ((KeptIn.refl _ w).alloc (fun _ h => h) _).alloc (fun _ h => h) _
  obtain ⟨x, hx⟩ : ∃ x, w.heap.size = x := ⟨_, rfl⟩
  have hst : W.heap[x]? = some (.cells #[.int .i64 lv, .slice a n cap, .int .i64 (fr : Int), .int .i64 (to : Int)] 81 (0, 0)) := by
    rw [← hW, ← hx]
    exact (Lib.alloc_old _ _ _ (by simp)).trans (heap_alloc_new _ _)
  have hbl : BoxL (x + 1) 0 none 0 0 W := by
    rw [← hW, ← hx, show w.heap.size + 1 = (w.alloc (.cells #[.int .i64 lv, .slice a n cap, .int .i64 (fr : Int), .int .i64 (to : Int)] 81)).heap.size by simp]
    exact heap_alloc_new _ _
  subst hn hcap hfr hto ha
  obtain ⟨q0, q1, q2, q3⟩ := wi_facts (V := W.drew) hst (KeptIn.refl _ _).drew
  obtain ⟨m, hm⟩ : ∃ m, xs.length = m := ⟨_, rfl⟩
  obtain ⟨R, hR⟩ : ∃ R, xs = R := ⟨_, rfl⟩
  have CC : Hid (Calls Try.prog 54 #[.slice (some ⟨W.heap.size, 0, none⟩) 3 3] (W.alloc (.cells #[.slice none 0 0, .slice aL m al, .slice none 0 0] 25)).drew (CatS (W.alloc (.cells #[.slice none 0 0, .slice aL m al, .slice none 0 0] 25)).drew R)) := Lib.hid (by
    have := pConcat W.heap.size _ _ _ _ ((p3_new (p1 := []) (p3 := []) (c1 := 0) (c2 := al) (c3 := 0) (IsPs.none W none) (hL.old hkW) (IsPs.none W none) (by simp) hl2 (by simp) (fun _ => .inl ⟨rfl, rfl⟩) hE (fun _ => .inl ⟨rfl, rfl⟩)).old (KeptIn.refl _ _).drew)
    rw [catP_three, hm, hR] at this
    simpa using this)
  have HF : Hid (∀ c V, KeptIn (· < (W.alloc c).drew.heap.size) (W.alloc c).drew V → BoxL (x + 1) 0 none 0 0 V ∧ KeptIn (· < w.heap.size) w V ∧ w.heap.size ≤ (W.alloc c).drew.heap.size ∧ x + 1 < (W.alloc c).drew.heap.size) := Lib.hid fun c V hV => by
    have hk1 : KeptIn (· < W.heap.size) W (W.alloc c).drew := ((KeptIn.refl _ _).alloc (fun _ h => h) _).drew
    have hk2 := hk1.go hV
    exact ⟨hbl.kept hk2 hbl.lt, hkW.go hk2, Nat.le_trans hkW.size hk1.size, Nat.lt_of_lt_of_le hbl.lt hk1.size⟩
  have HW := Lib.hid hW
  have HK2 := Lib.hid fun V n9 c9 (hk : KeptIn (· < W.heap.size) W V) a9 => wi_facts2 (a9 := a9) (n9 := n9) (c9 := c9) hst hk
  have HK := Lib.hid fun V (hk : KeptIn (· < W.heap.size) W V) => wi_facts (V := V) hst hk
  rw [hm]
  unfold stepV
  rw [hR]
  clear hL hE hst hbl hkW hW hm hR hl2
  go_enter Try.func39, Try.ntmps39
  go_wp2_with fail
  have hWx := HW.out
  simp only [Int.cast_ofNat_Int] at hWx q2 q3 HK HK2
  rw [hWx]
  clear hWx
  go_region_held3 (fun w' => w'.cell? ⟨x, 0, none⟩ = some (.int .i64 lv) ∧ w'.cell? ⟨x, 1, none⟩ = some (.slice none 0 0) ∧ w'.cell? ⟨x, 2, none⟩ = some (.int .i64 0) ∧ w'.cell? ⟨x, 3, none⟩ = some (.int .i64 0))
    (first | exact ⟨q0, q1, q2, q3⟩ | exact HK.out _ (((KeptIn.refl _ _).alloc (fun _ h => h) _).drew) | exact HK.out _ ((((KeptIn.refl _ _).alloc (fun _ h => h) _).drew).go hk) | exact HK2.out _ _ _ ((((KeptIn.refl _ _).alloc (fun _ h => h) _).drew).go hk) _)
    (first | (go_at_call 54; refine CC.out.mono ?_; rintro e V ⟨v, rfl, hrow, hk⟩; obtain ⟨a9, c9, rfl, hc9⟩ := row_slice hrow; obtain ⟨hb9, hk9, hs9, hx9⟩ := HF.out _ V hk; have d0 := hb9.c0; have d1 := hb9.c1; have f0 := hb9.f0; have f1 := hb9.f1))
  all_goals
    have hset := hb9.set (lv' := lv) (a' := a9) (n' := R.length) (cap' := c9)
    have hkx := (hk9.setCell (p := ⟨x + 1, 0, none⟩) (by rw [hx]; simp) (.int .i64 lv)).setCell (p := ⟨x + 1, 1, none⟩) (by rw [hx]; simp) (.slice a9 R.length c9)
    have hrow2 := rowS_block (w' := (V.setCell ⟨x + 1, 0, none⟩ (.int .i64 lv)).setCell ⟨x + 1, 1, none⟩ (.slice a9 R.length c9)) hrow fun g' e => by
      have := (rowS_lt hrow g' e).1
      exact (heap_setCell_other _ _ _ _ (by simp; omega)).trans (heap_setCell_other _ _ _ _ (by simp; omega))
    go_wp2_with fail
    refine bodyPost_ret (results_leaf1 rfl _ _ (x + 1) _ _ _ _ rfl hset) rfl ?_
    exact ⟨a9, c9, rfl, row_weaken hrow2 hs9, hkx⟩

end Go.Proofs.Ytjollbaohopmjaa
/- Package tree's climb: what it leaves, as a fold from the leaf on. -/
set_option linter.unusedVariables false
namespace Go.Proofs.Ytjollbaohopmjaa
open Go.RowKit Go.Shelf

/-- From a node's body on up these steps. -/
def upM (c : Nat) : List Stp → Nat → Pairs → List Nd → Option (Nat × Pairs) × List Nd
  | [], lv, l, N => (some (lv, l), N)
  | s :: r, lv, l, N => match partM c lv l N with
    | (none, N1) => (none, N1)
    | (some ls, N1) => upM c r s.lv (withM s ls) N1
theorem upM_snoc (c : Nat) (s : Stp) : ∀ (a : List Stp) (lv : Nat) (l : Pairs) (N : List Nd), upM c (a ++ [s]) lv l N = match upM c a lv l N with
    | (none, N1) => (none, N1)
    | (some q, N1) => match partM c q.1 q.2 N1 with
      | (none, N2) => (none, N2)
      | (some ls, N2) => (some (s.lv, withM s ls), N2) := by
  intro a
  induction a with
  | nil =>
    intro lv l N
    simp only [List.nil_append, upM]
  | cons t r ih =>
    intro lv l N
    show upM c (t :: (r ++ [s])) lv l N = _
    unfold upM
    cases partM c lv l N with
    | mk o N1 =>
      cases o with
      | none => rfl
      | some ls => exact ih _ _ _
theorem upM_none (c : Nat) (b : List Stp) : ∀ (a : List Stp) (lv : Nat) (l : Pairs) (N N1 : List Nd), upM c a lv l N = (none, N1) → upM c (a ++ b) lv l N = (none, N1) := by
  intro a
  induction a with
  | nil => intro lv l N N1 h; cases h
  | cons t r ih =>
    intro lv l N N1 h
    show upM c (t :: (r ++ b)) lv l N = _
    unfold upM at h ⊢
    cases hp : partM c lv l N with
    | mk o N2 =>
      rw [hp] at h
      cases o with
      | none => exact h
      | some ls => exact ih _ _ _ _ h

/-- What climbs is that fold. -/
theorem climb_up (c : Nat) (xs : Pairs) (N : List Nd) (z : Stp) : ∀ (init : List Stp), climbM c (init ++ [z]) xs N = ((upM c init.reverse z.lv (withM z xs) N).1.map (·.2), (upM c init.reverse z.lv (withM z xs) N).2) ∧ ∀ q, (upM c init.reverse z.lv (withM z xs) N).1 = some q → q.1 = lvOf (init ++ [z]) := by
  intro init
  induction init with
  | nil => exact ⟨rfl, fun q h => by cases h; rfl⟩
  | cons s r ih =>
    rw [List.reverse_cons, upM_snoc]
    obtain ⟨t, r', hr⟩ : ∃ t r', r ++ [z] = t :: r' := by
      cases r with
      | nil => exact ⟨z, [], rfl⟩
      | cons t r' => exact ⟨t, r' ++ [z], rfl⟩
    have hcl : climbM c (s :: r ++ [z]) xs N = match climbM c (r ++ [z]) xs N with
        | (none, N1) => (none, N1)
        | (some l, N1) => match partM c t.lv l N1 with
          | (none, N2) => (none, N2)
          | (some ls, N2) => (some (withM s ls), N2) := by
      show climbM c (s :: (r ++ [z])) xs N = _
      rw [hr]; rfl
    have hlv : lvOf (r ++ [z]) = t.lv := by rw [hr]; rfl
    rw [hcl, ih.1]
    have ih2 := ih.2
    cases hu : upM c r.reverse z.lv (withM z xs) N with
    | mk o N1 =>
      rw [hu] at ih2
      cases o with
      | none => exact ⟨rfl, fun q h => by cases h⟩
      | some q =>
        have hq := ih2 q rfl
        rw [hlv] at hq
        dsimp only [Option.map_some]
        rw [hq]
        cases hp : partM c t.lv q.2 N1 with
        | mk o2 N2 =>
          cases o2 with
          | none => exact ⟨rfl, fun q h => by cases h⟩
          | some ls => exact ⟨rfl, fun q h => by cases h; rfl⟩

/-- A step that is as it should be. -/
def StOk (s : Stp) : Prop := s.fr ≤ s.to ∧ s.to ≤ s.ps.length ∧ s.ps.length ≤ 15
theorem withM_length {s : Stp} (h : StOk s) (ls : Pairs) : (withM s ls).length ≤ 15 + ls.length := by
  unfold withM
  simp only [List.length_append, List.length_take, List.length_drop]
  have := h.1; have := h.2.1; have := h.2.2
  omega
theorem part_len {c lv : Nat} {l : Pairs} {N : List Nd} {ls : Pairs} {N1 : List Nd} (h : partM c lv l N = (some ls, N1)) (hl : l.length ≤ 100) (hNc : N.length ≤ c) (hc : c ≤ 511) (hf : Fits l) : ls.length ≤ 14 ∧ Fits ls ∧ N1.length ≤ c := by
  unfold partM at h
  obtain ⟨m, hm⟩ : ∃ m, (if 15 < l.length then 8 else 15) = m := ⟨_, rfl⟩
  have hm8 : m = 8 ∨ m = 15 := by rw [← hm]; split <;> omega
  rw [hm] at h
  obtain ⟨h1, h2, h3⟩ := nodesM_some h
  have hp : partsOf m l.length ≤ 14 := by unfold partsOf; rcases hm8 with rfl | rfl <;> omega
  refine ⟨by rw [h1, leadsOf_length]; exact hp, ?_, by rw [h2, List.length_append, nodesOf_length]; exact h3⟩
  rw [h1]
  exact leadsOf_fits hf (by omega) fun j hj => (parts_lt (by rcases hm8 with rfl | rfl <;> omega)).1 hj
theorem part_none_len {c lv : Nat} {l : Pairs} {N : List Nd} {N1 : List Nd} (h : partM c lv l N = (none, N1)) (hNc : N.length ≤ c) : N1.length ≤ c := by
  unfold partM at h
  obtain ⟨h1, h2⟩ := nodesM_none h
  rw [h2, List.length_append, nodesOf_length]; omega
theorem withM_fits {s : Stp} {ls : Pairs} (h1 : Fits s.ps) (h2 : Fits ls) : Fits (withM s ls) := by
  intro p hp
  unfold withM at hp
  rcases List.mem_append.1 hp with hp | hp
  · rcases List.mem_append.1 hp with hp | hp
    · exact h1 p (List.mem_of_mem_take hp)
    · exact h2 p hp
  · exact h1 p (List.mem_of_mem_drop hp)

/-- Where a way's steps lie. -/
theorem way_at {W : World} {B0 : Nat} : ∀ {ws : List Stp} {xs : List Value}, WayC W B0 xs ws → ∃ (A : Nat → Option Addr) (C : Nat → Nat), ∀ i (h : i < ws.length),
    xs[i * 4]? = some (.int .i64 (ws[i].lv : Int)) ∧ xs[i * 4 + 1]? = some (.slice (A i) ws[i].ps.length (C i)) ∧ xs[i * 4 + 2]? = some (.int .i64 (ws[i].fr : Int)) ∧ xs[i * 4 + 3]? = some (.int .i64 (ws[i].to : Int)) ∧
      IsPs W (A i) ws[i].ps ∧ (∀ p, A i = some p → B0 ≤ p.block ∧ TyP W p.block) ∧ CapOk (A i) ws[i].ps.length (C i) := by
  intro ws
  induction ws with
  | nil => intro xs _; exact ⟨fun _ => none, fun _ => 0, fun i h => by cases h⟩
  | cons s r ih =>
    intro xs h
    obtain ⟨a, cap, xs', rfl, k1, k2, k3, k4⟩ := h
    obtain ⟨A, C, hAC⟩ := ih k4
    refine ⟨fun i => if i = 0 then a else A (i - 1), fun i => if i = 0 then cap else C (i - 1), fun i hi => ?_⟩
    cases i with
    | zero => exact ⟨rfl, rfl, rfl, rfl, k1, k2, k3⟩
    | succ i =>
      have := hAC i (by simpa using hi)
      rw [show (i + 1) * 4 = i * 4 + 4 by omega]
      simpa using this

theorem row_stB {W : World} {B0 cap g : Nat} {ws : List Stp} {xs : List Value} {A : Nat → Option Addr} {C : Nat → Nat} (h : W.ownsRow B0 81 4 (.slice (some ⟨g, 0, none⟩) ws.length cap) ws.length xs)
    (hA : ∀ i (h : i < ws.length), xs[i * 4]? = some (.int .i64 (ws[i].lv : Int)) ∧ xs[i * 4 + 1]? = some (.slice (A i) ws[i].ps.length (C i)) ∧ xs[i * 4 + 2]? = some (.int .i64 (ws[i].fr : Int)) ∧ xs[i * 4 + 3]? = some (.int .i64 (ws[i].to : Int))) :
    StB W g ws A C ∧ ws.length ≤ cap ∧ cap ≤ maxLen := by
  rcases h.2 with ⟨e, _⟩ | ⟨g1, cap1, cur, e, _, hc, h1, h2, h3, h4⟩
  · cases e
  simp only [Value.slice.injEq, Option.some.injEq, Addr.mk.injEq, and_true, true_and] at e
  obtain ⟨rfl, rfl⟩ := e
  refine ⟨⟨(Array.getElem?_eq_some_iff.1 hc).1, fun i hi => ?_⟩, h1, h2⟩
  have hcell : ∀ j u, xs[j]? = some u → W.cell? ⟨g, j, none⟩ = some u := fun j u hu => by
    rw [cell_of_row _ _ _ _ _ _ hc]
    rw [← h4, List.getElem?_take] at hu
    split at hu
    · simpa using hu
    · cases hu
  obtain ⟨e1, e2, e3, e4⟩ := hA i hi
  exact ⟨hcell _ _ e1, hcell _ _ e2, hcell _ _ e3, hcell _ _ e4⟩

/-- What climb hands back. -/
def BodyS (w : World) (s room : Nat) (D : Nat → Prop) (lv : Nat) (r : Option Pairs × List Nd) (e : Ending) (w' : World) : Prop :=
  (match r.1 with
    | some l => ∃ a cap, e = .returned (.tuple #[leafV (lv : Int) a l.length cap, .int .i64 0]) ∧ w'.ownsRow w.heap.size 75 2 (.slice a l.length cap) l.length (cellsP l) ∧ Fits l
    | none => e = .returned (.tuple #[leafV 0 none 0 0, .int .i64 6])) ∧ AddTo w s room D r.2 w'

/-- The steps of places. -/
def stepsP (ws : List Stp) (n : Nat) (hn : n ≤ ws.length) (pre : List (StpN n)) : List Stp := pre.map fun x => ws[x.1]'(Nat.lt_of_lt_of_le x.2 hn)
theorem stepsP_snoc {ws : List Stp} {n : Nat} {hn : n ≤ ws.length} (pre : List (StpN n)) (x : StpN n) : stepsP ws n hn (pre ++ [x]) = stepsP ws n hn pre ++ [ws[x.1]'(Nat.lt_of_lt_of_le x.2 hn)] := by simp [stepsP]
theorem stepsP_back {ws : List Stp} {n : Nat} (hn : n ≤ ws.length) : ∀ k, k ≤ n → stepsP ws n hn (backJ n k) = (ws.take n).reverse.take k := by
  intro k
  induction k with
  | zero => intro _; simp [stepsP, backJ]
  | succ k ih =>
    intro h
    have hi : n - 1 - k < n := by omega
    rw [backJ_succ hi, stepsP_snoc, ih (by omega), List.take_add_one]
    congr 1
    have hl : k < (ws.take n).reverse.length := by simp; omega
    rw [List.getElem?_eq_getElem hl, List.getElem_reverse, List.getElem_take]
    simp only [List.length_take, Option.toList_some]
    congr 2
    omega

/-- Between two rounds of climb: L is the node's box, Bw where the call's own memory begins. -/
structure ClI (W0 : World) (s room L Bw : Nat) (D X : Nat → Prop) (lv : Nat) (l : Pairs) (N1 : List Nd) (W : World) : Prop where
  ex : ∃ D' a cap, IsSh W s room N1 D' ∧ (∀ k, D' k → IsC W k) ∧ (∀ k, D' k → D k ∨ W0.heap.size ≤ k) ∧ W.heap[L]? = some (.cells #[.int .i64 (lv : Int), .slice a l.length cap] 27 (0, 0)) ∧ W.ownsRow Bw 75 2 (.slice a l.length cap) l.length (cellsP l)
  kept : KeptIn X W0 W

theorem row_isC {W : World} {B n : Nat} {v : Value} {xs : List Value} (h : W.ownsRow B 75 2 v n xs) : ∀ g, v.ownBlock = some g → IsC W g := fun g e => by
  rcases h.2 with ⟨e1, _⟩ | ⟨g1, cap1, cur, e1, _, hc, _⟩
  · rw [e1] at e; cases e
  · rw [e1] at e
    simp only [Value.ownBlock, Option.some.injEq] at e
    subst e
    exact ⟨_, _, _, hc⟩

theorem ClI.own {W0 W W' : World} {s room L Bw lv : Nat} {D X : Nat → Prop} {N1 : List Nd} {l : Pairs} {row : Option Nat} (h : ClI W0 s room L Bw D X lv l N1 W) (hX : ∀ k, X k → k < W0.heap.size) (hg : W.grownBy W' row) (hr : ∀ r, row = some r → W0.heap.size ≤ r ∧ ∃ o : Obj, W.heap[r]? = some o ∧ o.isCells = false) : ClI W0 s room L Bw D X lv l N1 W' := by
  obtain ⟨⟨D', a, cap, h1, h2, h3, h4, h5⟩, hk⟩ := h
  have hb := fun k (hk : IsC W k) => own_block (r := 0) hg hr hk
  refine ⟨⟨D', a, cap, h1.kept ⟨hg.os, hg.tape, hg.output, hg.size, fun k hd => hb k (h2 k hd)⟩, fun k hd => (h2 k hd).eq (hb k (h2 k hd)), h3, (hb L ⟨_, _, _, h4⟩).trans h4, rowS_block h5 fun g e => hb g (row_isC h5 g e)⟩, hk.trans ⟨hg.os, hg.tape, hg.output, hg.size, fun k hx => hg.block k (Nat.lt_of_lt_of_le (hX k hx) hk.size) fun e => ?_⟩⟩
  have := (hr k e.symm).1
  have := hX k hx
  omega

/-- A round more. -/
theorem ClI.next {W0 W V2 V3 : World} {s room L Bw lv' a9c : Nat} {D X D1 : Nat → Prop} {N2 : List Nd} {l' : Pairs} {a9 : Option Addr} {v0 v1 : Value}
    (hX : ∀ k, X k ↔ k < W0.heap.size ∧ k ≠ s ∧ k ≠ L) (hD : ∀ k, D k → k ≠ L) (hL : L < W0.heap.size) (hs : s < W0.heap.size) (hLs : L ≠ s) (hk : KeptIn X W0 W) (hBw : Bw ≤ W0.heap.size) (i3 : ∀ k, D1 k → D k ∨ W0.heap.size ≤ k)
    (i4 : W.heap[L]? = some (.cells #[v0, v1] 27 (0, 0))) (hA : AddTo W s room D1 N2 V2) (hk3 : KeptIn (· < V2.heap.size) V2 V3) (hrow : V3.ownsRow V2.heap.size 75 2 (.slice a9 l'.length a9c) l'.length (cellsP l')) :
    ClI W0 s room L Bw D X lv' l' N2 ((V3.setCell ⟨L, 0, none⟩ (.int .i64 (lv' : Int))).setCell ⟨L, 1, none⟩ (.slice a9 l'.length a9c)) ∧ KeptIn X W ((V3.setCell ⟨L, 0, none⟩ (.int .i64 (lv' : Int))).setCell ⟨L, 1, none⟩ (.slice a9 l'.length a9c)) ∧ KeepsFrom W0.heap.size W ((V3.setCell ⟨L, 0, none⟩ (.int .i64 (lv' : Int))).setCell ⟨L, 1, none⟩ (.slice a9 l'.length a9c)) := by
  obtain ⟨D2, hsh, hD2, hk2⟩ := hA
  have hsz := hk.size
  have hs2 := hk2.size
  have hs3 := hk3.size
  have hfar : ∀ k, k < V2.heap.size → k ≠ L → ((V3.setCell ⟨L, 0, none⟩ (.int .i64 (lv' : Int))).setCell ⟨L, 1, none⟩ (.slice a9 l'.length a9c)).heap[k]? = V2.heap[k]? := fun k h1 h2 =>
    (heap_setCell_other _ _ _ _ (by simpa using h2)).trans ((heap_setCell_other _ _ _ _ (by simpa using h2)).trans (hk3.block k h1))
  have hLD2 : ¬ D2 L := fun hd => by
    rcases hD2 L hd with h | h
    · rcases i3 L h with h | h
      · exact hD L h rfl
      · omega
    · omega
  have hL3 : V3.heap[L]? = some (.cells #[v0, v1] 27 (0, 0)) := (hk3.block L (by omega)).trans ((hk2.block L ⟨by omega, hLs⟩).trans i4)
  have hkX : KeptIn X W ((V3.setCell ⟨L, 0, none⟩ (.int .i64 (lv' : Int))).setCell ⟨L, 1, none⟩ (.slice a9 l'.length a9c)) := by
    refine ⟨hk3.os.trans hk2.os, hk3.tape.trans hk2.tape, hk3.output.trans hk2.output, by simp; omega, fun k hx => ?_⟩
    obtain ⟨h1, h2, h3⟩ := (hX k).1 hx
    exact (hfar k (by omega) h3).trans (hk2.block k ⟨by omega, h2⟩)
  refine ⟨⟨⟨fun k => D2 k ∧ IsC V2 k, a9, a9c, ?_, fun k hd => ?_, fun k hd => ?_, ?_, ?_⟩, hk.trans hkX⟩, hkX, ⟨by simp; omega, fun k o hB ho hc => ?_⟩⟩
  · exact hsh.cells.kept ⟨hk3.os, hk3.tape, hk3.output, by simp; omega, fun k hd => hfar k (hsh.lt k hd.1) (fun e => hLD2 (e ▸ hd.1))⟩
  · exact hd.2.eq (hfar k (hsh.lt k hd.1) (fun e => hLD2 (e ▸ hd.1)))
  · rcases hD2 k hd.1 with h | h
    · exact i3 k h
    · exact .inr (by omega)
  · have h1 : (V3.setCell ⟨L, 0, none⟩ (.int .i64 (lv' : Int))).heap[L]? = _ := heap_setCell_same _ _ _ _ _ _ hL3
    rw [heap_setCell_same _ _ _ _ _ _ h1]; rfl
  · refine row_weaken (rowS_block hrow fun g e => ?_) (Nat.le_trans hBw (by omega))
    have := (rowS_lt hrow g e).1
    exact (heap_setCell_other _ _ _ _ (by simp; omega)).trans (heap_setCell_other _ _ _ _ (by simp; omega))
  · have hkl : k < W.heap.size := (Array.getElem?_eq_some_iff.1 ho).1
    exact (hfar k (by omega) (by omega)).trans ((hk2.block k ⟨hkl, by omega⟩).trans ho)

/-- A round left: there was no room. -/
def ClX (W0 : World) (s room R E c : Nat) (D X : Nat → Prop) (ws : List Stp) (k : Nat) (hkn : k ≤ ws.length) (lv0 : Nat) (l0 : Pairs) (N : List Nd) (cd : Code) (pre : List (StpN k)) (W : World) : Prop :=
  cd = .ret ∧ ∃ N1 D', upM c (stepsP ws k hkn pre) lv0 l0 N = (none, N1) ∧ IsSh W s room N1 D' ∧ (∀ k, D' k → IsC W k) ∧ (∀ k, D' k → D k ∨ W0.heap.size ≤ k) ∧
    W.heap[R]? = some (.cells #[.int .i64 0, .slice none 0 0] 27 (0, 0)) ∧ W.heap[E]? = some (.cells #[.int .i64 6] 32 (0, 0)) ∧ KeptIn (fun k => X k ∧ k ≠ R ∧ k ≠ E) W0 W
theorem ClX.own {W0 : World} {s room R E c : Nat} {D X : Nat → Prop} {ws : List Stp} {k : Nat} {hkn : k ≤ ws.length} {lv0 : Nat} {l0 : Pairs} {N : List Nd} (cd : Code) (hX : ∀ k, X k → k < W0.heap.size) : OwnFrom W0.heap.size (ClX W0 s room R E c D X ws k hkn lv0 l0 N cd) := by
  rintro pre W W' row ⟨hc, N1, D', e, h1, h2, h3, h6, h7, hk⟩ hg hr
  have hb := fun k (hk : IsC W k) => own_block (r := 0) hg hr hk
  exact ⟨hc, N1, D', e, h1.kept ⟨hg.os, hg.tape, hg.output, hg.size, fun k hd => hb k (h2 k hd)⟩, fun k hd => (h2 k hd).eq (hb k (h2 k hd)), h3, (hb _ ⟨_, _, _, h6⟩).trans h6, (hb _ ⟨_, _, _, h7⟩).trans h7,
    hk.trans ⟨hg.os, hg.tape, hg.output, hg.size, fun k hx => hg.block k (Nat.lt_of_lt_of_le (hX k hx.1) hk.size) fun e => by
      have := (hr k e.symm).1
      have := hX k hx.1
      omega⟩⟩

theorem row_emp {W : World} {B n cap : Nat} {a : Option Addr} {xs : List Value} (h : W.ownsRow B 75 2 (.slice a n cap) n xs) : EmpOk a n cap := fun _ => by
  rcases h.2 with ⟨e, _⟩ | ⟨g, cap1, cur, e, _⟩
  · simp only [Value.slice.injEq] at e
    exact .inl ⟨e.1, e.2.2⟩
  · simp only [Value.slice.injEq] at e
    exact .inr ⟨g, 0, e.1⟩

/-- Behind the loop, whatever was stored to R and E. -/
theorem an_fin {w W0 W W8 Wf : World} {s room R E : Nat} {D D' X : Nat → Prop} {N' : List Nd} {Dd : Nat} {o : Obj} (hk0 : KeptIn (· < w.heap.size) w W0) (hs : s < w.heap.size) (hX : ∀ k, k < w.heap.size → k ≠ s → X k) (hD : ∀ k, D k → k < w.heap.size) (hR : w.heap.size ≤ R ∧ R < W0.heap.size) (hE : w.heap.size ≤ E ∧ E < W0.heap.size)
    (h1 : IsSh W s room N' D') (h2 : ∀ k, D' k → IsC W k) (h3 : ∀ k, D' k → D k ∨ W0.heap.size ≤ k) (hk : KeptIn X W0 W) (hK : W.heap[Dd]? = some (.deferred (some []))) (hDd : W0.heap.size ≤ Dd)
    (h8 : KeptIn (fun k => k ≠ R ∧ k ≠ E) W W8) (h8s : W8.heap.size = W.heap.size) (hW : W8.putObj Dd o = Wf) :
    AddTo w s room D N' Wf ∧ (∀ k, IsC W k → k ≠ R → k ≠ E → Wf.heap[k]? = W.heap[k]?) := by
  have hfar : ∀ k, k ≠ R → k ≠ E → k ≠ Dd → Wf.heap[k]? = W.heap[k]? := fun k e1 e2 e3 => by
    rw [← hW]
    exact (World.putObj_heap_other e3).trans (h8.block k ⟨e1, e2⟩)
  have hcd : ∀ k, IsC W k → k ≠ Dd := fun k hk e => by
    obtain ⟨cs, t, fr, h⟩ := hk
    rw [e, hK] at h
    cases h
  have hsz : Wf.heap.size = W.heap.size := by rw [← hW]; simp [h8s]
  have hnot : ∀ k, D' k → k ≠ R ∧ k ≠ E := fun k hd => by
    rcases h3 k hd with h | h
    · have := hD k h; omega
    · omega
  refine ⟨⟨D', h1.kept ⟨by rw [← hW]; exact h8.os, by rw [← hW]; exact h8.tape, by rw [← hW]; exact h8.output, by omega, fun k hd => hfar k (hnot k hd).1 (hnot k hd).2 (hcd k (h2 k hd))⟩, fun k hd => (h3 k hd).imp id fun h => Nat.le_trans hk0.size h, ?_⟩, fun k hc e1 e2 => hfar k e1 e2 (hcd k hc)⟩
  have h0 := hk0.size
  refine ((hk0.mono fun k h => h.1).trans (hk.mono fun k h => hX k h.1 h.2)).trans ⟨by rw [← hW]; exact h8.os, by rw [← hW]; exact h8.tape, by rw [← hW]; exact h8.output, by omega, fun k h => hfar k (by omega) (by omega) (by omega)⟩

/-- All steps but the last. -/
theorem steps_all {ws init : List Stp} {z : Stp} (hws : ws = init ++ [z]) (hkn : init.length ≤ ws.length) (q : Nat) (hq : q ≤ init.length) : stepsP ws init.length hkn (backJ init.length q) = init.reverse.take q := by
  rw [stepsP_back hkn q hq]
  have : ws.take init.length = init := by rw [hws]; simp
  rw [this]

end Go.Proofs.Ytjollbaohopmjaa
/- Package tree's climb: the walk. -/
set_option linter.unusedVariables false
namespace Go.Proofs.Ytjollbaohopmjaa
open Go.RowKit Go.Shelf
attribute [local go_sem] Oper.semAt_some

/-- with, whatever the step. -/
theorem trWithAny {w : World} {s : Stp} {a : Option Addr} {cap : Nat} (h : IsPs w a s.ps) (hc : CapOk a s.ps.length cap) (hok : StOk s) (aL : Option Addr) (al : Nat) (xs : Pairs) (hL : IsPs w aL xs) (hl2 : xs.length ≤ 1000) (hE : EmpOk aL xs.length al) :
    Calls Try.prog 39 #[stepV (s.lv : Int) a s.ps.length cap s.fr s.to, .slice aL xs.length al] w (WithS w (s.lv : Int) (withM s xs)) := by
  obtain ⟨h1, h2, h3, h4⟩ := hc
  cases a with
  | some p =>
    obtain ⟨g, rfl⟩ := h4 p rfl
    exact trWith (s.lv : Int) g cap s.fr s.to al aL s.ps xs w h ⟨h1, h2, h3, h4⟩ hok.1 hok.2.1 (Nat.le_trans hok.2.2 (by decide)) hL hl2 hE
  | none =>
    have hc0 := h3 rfl
    have hn0 : s.ps.length = 0 := by omega
    have ht : s.to = 0 := by have := hok.2.1; omega
    have hf : s.fr = 0 := by have := hok.1; omega
    have hps : s.ps = [] := List.length_eq_zero_iff.1 hn0
    rw [hn0, hc0, ht, hf]
    have : withM s xs = xs := by unfold withM; rw [hps]; simp
    rw [this]
    exact trWithNil (s.lv : Int) al aL xs w hL hl2 hE

theorem cb_nums (n k : Nat) (h : k + 1 = n) (hn : n ≤ 1000) : wrap64 ((n : Int) - 1) = (k : Int) ∧ (0 : Int) ≤ (k : Int) ∧ (k : Int) < (n : Int) ∧ (k : Int) ≤ (n : Int) := by
  refine ⟨by unfold wrap64; omega, by omega, by omega, by omega⟩

set_option maxRecDepth 100000 in
set_option maxHeartbeats 4000000 in
theorem trClimb {w : World} {s room : Nat} {N : List Nd} {D : Nat → Prop} (h : IsSh w s room N D) {B0 : Nat} (hsB : s < B0) (g cap : Nat) (ws init : List Stp) (z : Stp) (hws : ws = init ++ [z]) (hw : WayR w B0 (.slice (some ⟨g, 0, none⟩) ws.length cap) ws) (hB0 : B0 ≤ g) (hl : ws.length ≤ 1000) (hok : ∀ t ∈ ws, StOk t) (aL : Option Addr) (al : Nat) (xs : Pairs) (hL : IsPs w aL xs) (hl2 : xs.length ≤ 1) (hE : EmpOk aL xs.length al) (hNc : N.length ≤ min room 511) :
    Calls Try.prog 23 #[pgV s, .slice (some ⟨g, 0, none⟩) ws.length cap, .slice aL xs.length al] w (BodyS w s room D (lvOf ws) (climbM (min room 511) ws xs N)) := by
  obtain ⟨xs0, hrow, hwc⟩ := hw
  obtain ⟨A, C, hAC⟩ := way_at hwc
  obtain ⟨hst, hcap, hcm⟩ := row_stB hrow fun i hi => ⟨(hAC i hi).1, (hAC i hi).2.1, (hAC i hi).2.2.1, (hAC i hi).2.2.2.1⟩
  obtain ⟨k, hk⟩ : ∃ k, init.length = k := ⟨_, rfl⟩
  have hnl : k + 1 = ws.length := by rw [hws]; simp [hk]
  have hkl : k < ws.length := by omega
  have hz : ws[k] = z := by simp [hws, ← hk]
  obtain ⟨n1, n2, n3, n4⟩ := cb_nums ws.length k hnl hl
  refine (callsIn_wide (n := 3)).1 ?_
  refine callsIn_of_wp_marks Try.func23 rfl trivial ?_ rfl
  simp only [Try.ntmps23, pgV, List.size_toArray, List.length_cons, List.length_nil, Nat.reduceAdd, Nat.reduceSub, Array.replicate_succ, Array.replicate_zero, List.push_toArray, List.append_toArray, List.nil_append, List.cons_append]
  obtain ⟨W1, hW1⟩ : ∃ W1, allocL w [.cells #[.iface 28 (.pointer (some ⟨s, 0, none⟩))] 57, .cells #[.int .i64 0, .slice none 0 0] 27, .cells #[.int .i64 0] 32] = W1 := ⟨_, rfl⟩
  have hk1 : KeptIn (· < w.heap.size) w W1 := by rw [← hW1]; exact allocL_kept _ _
  have hsz1 : W1.heap.size = w.heap.size + 3 := by rw [← hW1, allocL_size]; rfl
  have hat := fun i => allocL_at [.cells #[.iface 28 (.pointer (some ⟨s, 0, none⟩))] 57, .cells #[.int .i64 0, .slice none 0 0] 27, .cells #[.int .i64 0] 32] w i
  rw [hW1] at hat
  obtain ⟨B, hB⟩ : ∃ B, w.heap.size = B := ⟨_, rfl⟩
  rw [hB] at hat hsz1
  obtain ⟨B1, hB1⟩ : ∃ x, B + 1 = x := ⟨_, rfl⟩
  obtain ⟨B2, hB2⟩ : ∃ x, B1 + 1 = x := ⟨_, rfl⟩
  have b0 : W1.heap[B]? = _ := hat 0 (by simp)
  have b1 : W1.heap[B1]? = _ := (show B1 = B + 1 by omega) ▸ hat 1 (by simp)
  have b2 : W1.heap[B2]? = _ := (show B2 = B + 2 by omega) ▸ hat 2 (by simp)
  clear hat
  have hgB : g < B := by rw [← hB]; exact hst.lt
  have hst1 := hst.old' hk1
  obtain ⟨c0, c1, c2, c3⟩ := hst1.cells k hkl
  rw [hz] at c0 c1 c2 c3
  have hAk := hAC k hkl
  rw [hz] at hAk
  have CW := trWithAny (w := W1) (hAk.2.2.2.2.1.old hk1) hAk.2.2.2.2.2.2 (hok z (by rw [hws]; simp)) aL al xs (hL.old hk1) (by omega) hE
  have hW1' := hW1
  simp only [allocL, List.foldl_cons, List.foldl_nil] at hW1'
  obtain ⟨nn, hnn⟩ : ∃ nn, ws.length = nn := ⟨_, rfl⟩
  obtain ⟨nz, hnz⟩ : ∃ nz, z.ps.length = nz := ⟨_, rfl⟩
  obtain ⟨nx, hnx⟩ : ∃ nx, xs.length = nx := ⟨_, rfl⟩
  obtain ⟨A1, hA1⟩ : ∃ a, A k = a := ⟨_, rfl⟩
  obtain ⟨C1, hC1⟩ : ∃ a, C k = a := ⟨_, rfl⟩
  rw [hnz, hA1, hC1] at c1
  rw [hnn] at n1 n3 n4
  rw [hnz, hnx, hA1, hC1] at CW
  rw [hnn, hnx]
  generalize hzl : (z.lv : Int) = zl at c0 CW
  unfold stepV at CW
  obtain ⟨m9, hm9⟩ : ∃ m9, (withM z xs).length = m9 := ⟨_, rfl⟩
  have HC := Lib.hid (Calls.mono CW (R' := fun e w' => ∃ a9 c9, e = .returned (.agg #[.int .i64 zl, .slice a9 m9 c9]) ∧ w'.ownsRow W1.heap.size 75 2 (.slice a9 m9 c9) m9 (cellsP (withM z xs)) ∧ KeptIn (· < W1.heap.size) W1 w') fun e w' ⟨a9, c9, h1, h2, h3⟩ => ⟨a9, c9, by rw [← hm9]; exact h1, by rw [← hm9]; exact h2, h3⟩)
  have HM9 := Lib.hid hm9
  have H := Lib.hid (And.intro h (And.intro hst (And.intro hAC (And.intro hok (And.intro hNc (And.intro hk1 (And.intro b0 (And.intro b1 (And.intro b2 (And.intro hnl (And.intro hnn (And.intro hzl (And.intro hB (And.intro hB1 (And.intro hB2 (And.intro hsz1 (And.intro hgB (And.intro hws (And.intro hk (And.intro hl (And.intro hcap hcm)))))))))))))))))))))
  have HF0 : Hid ((withM z xs).length ≤ 100 ∧ Fits (withM z xs)) := Lib.hid ⟨by have := withM_length (hok z (by rw [hws]; simp)) xs; omega, withM_fits hAk.2.2.2.2.1.fits hL.fits⟩
  clear h hst hAC hok hNc hk1 b0 b1 b2 hnl hnn hzl hsz1 hgB hk hl hcap hcm hL hE hrow hwc hst1 hws hz hkl hW1 CW hAk hnz hnx hl2 hA1 hC1 hm9
  have n5 : (k : Int) ≤ (cap : Int) := by have := H.out.2.2.2.2.2.2.2.2.2.2.2.2.2.2.2.2.2.2.2.2.1; have := H.out.2.2.2.2.2.2.2.2.2.1; omega
  have n6 : k ≤ cap := by omega
  gi_wp2_with (refine ⟨trivial, ?_⟩; gi_at_call 39; refine (callsIn_wide.2 HC.out).mono ?_; rintro e V ⟨a9, c9, rfl, hrow9, hk9⟩)
  have HV := Lib.hid (And.intro hrow9 hk9)
  clear hrow9 hk9 HC c0 c1 c2 c3 hW1'
  gi_wp2_with (refine ⟨trivial, ?_⟩; gi_at_call 40; refine (sBack 2 (some ⟨g, 0, none⟩) k cap _).mono ?_; rintro e w' ⟨rfl, rfl⟩)
  obtain ⟨h, hst, hAC, hok, hNc, hk1, b0, b1, b2, hnl, hnn, hzl, hB, hB1, hB2, hsz1, hgB, hws, hk, hl, hcap, hcm⟩ := H.out
  obtain ⟨hrow9, hk9⟩ := HV.out
  obtain ⟨W0, hW0⟩ : ∃ W0, (V.alloc (.cells #[.int .i64 zl, .slice a9 m9 c9] 27)).alloc (.cells #[.slice (some ⟨g, 0, none⟩) k cap] 77) = W0 := ⟨_, rfl⟩
  obtain ⟨L, hLe⟩ : ∃ L, V.heap.size = L := ⟨_, rfl⟩
  obtain ⟨L1, hL1⟩ : ∃ x, L + 1 = x := ⟨_, rfl⟩
  have hkV0 : KeptIn (· < V.heap.size) V W0 := by rw [← hW0]; exact ((KeptIn.refl _ V).alloc (fun _ h => h) _).alloc (fun _ h => h) _
  have hsz0 : W0.heap.size = L + 2 := by rw [← hW0, ← hLe]; simp
  have l0 : W0.heap[L]? = some (.cells #[.int .i64 zl, .slice a9 m9 c9] 27 (0, 0)) := by
    rw [← hW0, ← hLe]
    exact (Lib.alloc_old _ _ _ (by simp)).trans (heap_alloc_new _ _)
  have l1 : W0.heap[L1]? = some (.cells #[.slice (some ⟨g, 0, none⟩) k cap] 77 (0, 0)) := by
    rw [← hW0, ← hL1, ← hLe, show V.heap.size + 1 = (V.alloc (.cells #[.int .i64 zl, .slice a9 m9 c9] 27)).heap.size by simp]
    exact heap_alloc_new _ _
  have hk0 : KeptIn (· < w.heap.size) w W0 := (hk1.go hk9).go hkV0
  have hBL : B + 3 ≤ L := by rw [← hLe, ← hsz1]; exact hk9.size
  have hsw : s < B := by rw [← hB]; exact h.lt s h.ds
  have b0' : W0.heap[B]? = _ := (hkV0.block B (by omega)).trans ((hk9.block B (by omega)).trans b0)
  have b1' : W0.heap[B1]? = some (.cells #[.int .i64 0, .slice none 0 0] 27 (0, 0)) := (hkV0.block B1 (by omega)).trans ((hk9.block B1 (by omega)).trans b1)
  have b2' : W0.heap[B2]? = some (.cells #[.int .i64 0] 32 (0, 0)) := (hkV0.block B2 (by omega)).trans ((hk9.block B2 (by omega)).trans b2)
  rw [hW0]
  simp only [hLe, hL1]
  obtain ⟨X, hXe⟩ : ∃ X : Nat → Prop, X = fun k => k < W0.heap.size ∧ k ≠ s ∧ k ≠ L := ⟨_, rfl⟩
  have hXlt : ∀ k, X k → k < W0.heap.size := fun k hk => by rw [hXe] at hk; exact hk.1
  have hkn : k ≤ ws.length := by omega
  have hX1 : X L1 := by rw [hXe]; exact ⟨by omega, by omega, by omega⟩
  have hXg : X g := by rw [hXe]; exact ⟨by omega, by omega, by omega⟩
  have hstops := sBack_stops 2 (by omega) L1 g cap k ws A C hkn hl X hX1 hXg W0 l1 (hst.kept hk0 (by rw [hB]; exact hgB))
  have hI0 : ClI W0 s room L w.heap.size D X z.lv (withM z xs) N W0 := by
    have hc := (h.old hk0).cells
    refine ⟨⟨fun k => D k ∧ IsC W0 k, a9, c9, hc, fun k hk => hk.2, fun k hk => .inl hk.1, ?_, ?_⟩, KeptIn.refl _ _⟩
    · rw [hzl, HM9.out]; exact l0
    · rw [HM9.out]
      exact row_weaken (rowS_block hrow9 fun g9 e => hkV0.block g9 (rowS_lt hrow9 g9 e).2) hk1.size
  have hzok : StOk z := hok z (by rw [hws]; simp)
  have hI00 : (withM z xs).length ≤ 100 ∧ Fits (withM z xs) := HF0.out
  have HX := Lib.hid (And.intro hXe (And.intro hXlt (And.intro hsw (And.intro hBL (And.intro hsz0 (And.intro hB (And.intro hB1 (And.intro hB2 hL1))))))))
  have HB := Lib.hid (And.intro b0' (And.intro b1' (And.intro b2' hk0)))
  have HI0 := Lib.hid (And.intro hI0 hI00)
  have HS := Lib.hid hstops
  have hXl2 := hXlt
  clear hI0 hI00 hstops hX1 hXg b0' b1' b2' l0 l1 hXe hsw hBL hsz0 hL1 hkV0 hk9 hrow9 h hst hAC hok hNc hk1 b0 b1 b2 hnl hnn hzl hB hB1 hB2 hsz1 hgB hws hk hl hcap hcm hzok hk0 hW0 hLe HV
  refine wpIn_rangeFunc_ownH rfl (by omega) (gf := 55) (lb := #[.pointer (some ⟨L1, 0, none⟩)]) rfl trivial (enters_of Try.func55 (by kernel_rfl) rfl)
    HS.out (fun h k => h.trans k) (fun W l' o o' hl' _ _ _ => KeptIn.putObj (fun hx => absurd (hXlt _ hx) (by omega)) o') (Below.refl _ _) (fun _ => rfl)
    (fun pre W => ∃ lv l N1, upM (min room 511) (stepsP ws k hkn pre) z.lv (withM z xs) N = (some (lv, l), N1) ∧ l.length ≤ 100 ∧ Fits l ∧ N1.length ≤ min room 511 ∧ ClI W0 s room L w.heap.size D X lv l N1 W)
    (ClX W0 s room B1 B2 (min room 511) D X ws k hkn z.lv (withM z xs) N)
    (fun pre W W' row ⟨lv, l, N1, h1, h2, h3, h4, h5⟩ hg hr => ⟨lv, l, N1, h1, h2, h3, h4, h5.own hXlt hg hr⟩)
    (fun c => ClX.own c hXlt)
    ⟨z.lv, withM z xs, N, rfl, HI0.out.2.1, HI0.out.2.2, H.out.2.2.2.2.1, HI0.out.1⟩
    (fun x a' W => ∃ Bx, W0.heap.size ≤ Bx ∧ W.heap[Bx]? = some (.cells #[.int .i64 ((ws[x.1]'(Nat.lt_of_lt_of_le x.2 hkn)).lv : Int), .slice (A x.1) (ws[x.1]'(Nat.lt_of_lt_of_le x.2 hkn)).ps.length (C x.1), .int .i64 ((ws[x.1]'(Nat.lt_of_lt_of_le x.2 hkn)).fr : Int), .int .i64 ((ws[x.1]'(Nat.lt_of_lt_of_le x.2 hkn)).to : Int)] 81 (0, 0)) ∧
      a' = { tmps := #[.iface 28 (.pointer (some ⟨s, 0, none⟩)), .slice (some ⟨g, 0, none⟩) nn cap, .slice aL nx al, .pointer (some ⟨B, 0, none⟩), undef, undef, .pointer (some ⟨B1, 0, none⟩), .pointer (some ⟨B2, 0, none⟩), .int .i64 (k : Int), .pointer (some ⟨L, 0, none⟩), undef, .pointer (some ⟨Bx, 0, none⟩), undef, undef, .slice (some ⟨g, 0, none⟩) nn cap, .int .i64 (nn : Int), .int .i64 (k : Int), .slice (some ⟨g, 0, none⟩) nn cap, .int .i64 (k : Int), .pointer (some ⟨g, k * 4, none⟩),
        .agg #[.int .i64 zl, .slice A1 nz C1, .int .i64 (z.fr : Int), .int .i64 (z.to : Int)], .slice aL nx al, .agg #[.int .i64 zl, .slice a9 m9 c9], .slice (some ⟨g, 0, none⟩) nn cap, .int .i64 (k : Int), .slice (some ⟨g, 0, none⟩) k cap, .func (.func 55) #[] #[.pointer (some ⟨L1, 0, none⟩)], .int .i64 (x.1 : Int),
        .agg #[.int .i64 ((ws[x.1]'(Nat.lt_of_lt_of_le x.2 hkn)).lv : Int), .slice (A x.1) (ws[x.1]'(Nat.lt_of_lt_of_le x.2 hkn)).ps.length (C x.1), .int .i64 ((ws[x.1]'(Nat.lt_of_lt_of_le x.2 hkn)).fr : Int), .int .i64 ((ws[x.1]'(Nat.lt_of_lt_of_le x.2 hkn)).to : Int)], undef, undef, undef, undef, undef, undef, undef, undef, undef, undef, undef, undef, undef, undef], defers := [] })
    (fun x a' _ W W' row ⟨Bx, h1, h2, h3⟩ hg hr => ⟨Bx, h1, (own_block (r := 0) hg hr ⟨_, _, _, h2⟩).trans h2, h3⟩)
    ?assign ?body ?done ?stop
  case assign =>
    rintro l' pre x W K hI hK
    unfold encS
    gi_wp2
    obtain ⟨lv, l, N1, h1, h2, h3, h4, h5⟩ := hI
    exact hK _ _ ((KeepsOthers.alloc _ _).from _) ((KeptIn.refl _ W).alloc (fun k hk => Nat.lt_of_lt_of_le (hXlt k hk) h5.kept.size) _) ⟨lv, l, N1, h1, h2, h3, h4, h5.own hXlt (World.grownBy_alloc W _ none) (fun r e => by cases e)⟩ ⟨W.heap.size, h5.kept.size, heap_alloc_new W _, rfl⟩
  case body =>
    rintro l' pre x a' W hl' ⟨r, hr⟩ ⟨lv, l, N1, hu, hl100, hfl, hN1, hI⟩ ⟨Bx, hBx, hbx, rfl⟩ hpre
    obtain ⟨⟨D1, aa, ca, i1, i2, i3, i4, i5⟩, hkI⟩ := hI
    obtain ⟨h, hst, hAC, hok, hNc, hk1, b0, b1, b2, hnl, hnn, hzl, hB, hB1, hB2, hsz1, hgB, hws, hk, hl, hcap, hcm⟩ := H.out
    obtain ⟨hXe, _, hsw, hBL, hsz0, _, _, _, hL1⟩ := HX.out
    have hxl : x.1 < ws.length := Nat.lt_of_lt_of_le x.2 hkn
    have hsn := stepsP_snoc (ws := ws) (hn := hkn) pre x
    have hok' := hok _ (List.getElem_mem hxl)
    obtain ⟨_, _, _, _, p1, p2, p3⟩ := hAC x.1 hxl
    generalize hstx : ws[x.1]'(Nat.lt_of_lt_of_le x.2 hkn) = st at *
    have hWsz : W0.heap.size ≤ W.heap.size := hkI.size
    have d0 : W.heap[B]? = _ := (hkI.block B (by rw [hXe]; exact ⟨by omega, by omega, by omega⟩)).trans HB.out.1
    have d1 : W.heap[B1]? = _ := (hkI.block B1 (by rw [hXe]; exact ⟨by omega, by omega, by omega⟩)).trans HB.out.2.1
    have d2 : W.heap[B2]? = _ := (hkI.block B2 (by rw [hXe]; exact ⟨by omega, by omega, by omega⟩)).trans HB.out.2.2.1
    have q0 : W.cell? ⟨B, 0, none⟩ = some (.iface 28 (.pointer (some ⟨s, 0, none⟩))) := by simp [World.cell?, d0]
    have q1 : W.cell? ⟨L, 0, none⟩ = some (.int .i64 (lv : Int)) := by simp [World.cell?, i4]
    have q2 : W.cell? ⟨L, 1, none⟩ = some (.slice aa l.length ca) := by simp [World.cell?, i4]
    have CP := trParted i1 lv ca aa l (row_listOk i5 hfl (by omega)) (by omega) hN1
    have hsnoc := upM_snoc (min room 511) st (stepsP ws k hkn pre) z.lv (withM z xs) N
    rw [← hsn, hu] at hsnoc
    dsimp only at hsnoc
    obtain ⟨ln, hln⟩ : ∃ ln, l.length = ln := ⟨_, rfl⟩
    have hXiff : ∀ k, X k ↔ k < W0.heap.size ∧ k ≠ s ∧ k ≠ L := fun k => by rw [hXe]
    have hDL : ∀ k, D k → k ≠ L := fun k hd => by have := h.lt k hd; omega
    cases hM : partM (min room 511) lv l N1 with
    | mk o N2 =>
      rw [hM] at CP hsnoc
      rw [hln] at CP q2
      cases o with
      | none =>
        dsimp only at hsnoc
        have HC := Lib.hid (Calls.mono CP (R' := fun e w' => e = .returned (.tuple #[.slice none 0 0, .int .i64 6]) ∧ AddTo W s room D1 N2 w') fun e w' h => h)
        have HF : Hid (∀ V2, AddTo W s room D1 N2 V2 → (V2.heap[B1]? = some (.cells #[.int .i64 0, .slice none 0 0] 27 (0, 0)) ∧ V2.heap[B2]? = some (.cells #[.int .i64 0] 32 (0, 0))) ∧ KeepsFrom W0.heap.size W (((V2.setCell ⟨B1, 0, none⟩ (.int .i64 0)).setCell ⟨B1, 1, none⟩ (.slice none 0 0)).setCell ⟨B2, 0, none⟩ (.int .i64 6)) ∧ ClX W0 s room B1 B2 (min room 511) D X ws k hkn z.lv (withM z xs) N .ret (pre ++ [x]) (((V2.setCell ⟨B1, 0, none⟩ (.int .i64 0)).setCell ⟨B1, 1, none⟩ (.slice none 0 0)).setCell ⟨B2, 0, none⟩ (.int .i64 6))) := Lib.hid fun V2 hA => by
          obtain ⟨D2, hsh, hD2, hk2⟩ := hA
          have z1 : V2.heap[B1]? = some (.cells #[.int .i64 0, .slice none 0 0] 27 (0, 0)) := (hk2.block B1 ⟨by omega, by omega⟩).trans d1
          have z2 : V2.heap[B2]? = some (.cells #[.int .i64 0] 32 (0, 0)) := (hk2.block B2 ⟨by omega, by omega⟩).trans d2
          have hfar : ∀ k, k ≠ B1 → k ≠ B2 → (((V2.setCell ⟨B1, 0, none⟩ (.int .i64 0)).setCell ⟨B1, 1, none⟩ (.slice none 0 0)).setCell ⟨B2, 0, none⟩ (.int .i64 6)).heap[k]? = V2.heap[k]? := fun k e1 e2 => (heap_setCell_other _ _ _ _ (by simpa using e2)).trans ((heap_setCell_other _ _ _ _ (by simpa using e1)).trans (heap_setCell_other _ _ _ _ (by simpa using e1)))
          have hnot : ∀ k, D2 k → k ≠ B1 ∧ k ≠ B2 := fun k hd => by
            rcases hD2 k hd with h' | h'
            · rcases i3 k h' with h' | h'
              · have := h.lt k h'; omega
              · omega
            · omega
          have hs2 := hk2.size
          refine ⟨⟨z1, z2⟩, ⟨by simpa using hs2, fun k o hBk ho hc => ?_⟩, rfl, N2, fun k => D2 k ∧ IsC V2 k, hsnoc, ?_, fun k hd => hd.2.eq (hfar k (hnot k hd.1).1 (hnot k hd.1).2), fun k hd => ?_, ?_, ?_, ?_⟩
          · have hkl := (Array.getElem?_eq_some_iff.1 ho).1
            exact (hfar k (by omega) (by omega)).trans ((hk2.block k ⟨hkl, by omega⟩).trans ho)
          · exact hsh.cells.kept ⟨rfl, rfl, rfl, by simp, fun k hd => hfar k (hnot k hd.1).1 (hnot k hd.1).2⟩
          · rcases hD2 k hd.1 with h' | h'
            · exact i3 k h'
            · exact .inr (by omega)
          · have y1 : (V2.setCell ⟨B1, 0, none⟩ (.int .i64 0)).heap[B1]? = _ := heap_setCell_same _ _ _ _ _ _ z1
            rw [heap_setCell_other _ _ _ _ (by simp; omega), heap_setCell_same _ _ _ _ _ _ y1]; rfl
          · have y1 : ((V2.setCell ⟨B1, 0, none⟩ (.int .i64 0)).setCell ⟨B1, 1, none⟩ (.slice none 0 0)).heap[B2]? = _ := (heap_setCell_other _ _ _ _ (by simp; omega)).trans ((heap_setCell_other _ _ _ _ (by simp; omega)).trans z2)
            rw [heap_setCell_same _ _ _ _ _ _ y1]; rfl
          · refine (hkI.mono fun k hk => hk.1).trans ⟨hk2.os, hk2.tape, hk2.output, by simpa using hs2, fun k hk => ?_⟩
            have := (hXiff k).1 hk.1
            exact (hfar k hk.2.1 hk.2.2).trans (hk2.block k ⟨by omega, this.2.1⟩)
        have hB12 : ¬ B1 = B2 := by omega
        have hB21 : ¬ B2 = B1 := by omega
        unfold pgV leafV at HC
        clear CP hsnoc hM hln hXiff hDL d0 d1 d2 hWsz p1 p2 p3 hok' hsn hxl i1 i2 i3 i4 i5 hkI h hst hAC hok hNc hk1 b0 b1 b2 hnl hnn hzl hB hB1 hB2 hsz1 hgB hws hk hl hcap hcm hXe hsw hBL hsz0 hL1 hu hl100 hfl hN1 hBx hbx hpre HI0 HS HX HB H HF0 HM9 hXl2 hXlt hr hl'
        gi_wp2_with (refine ⟨trivial, ?_⟩; gi_at_call 26; refine (CallsIn.inRound l' (callsIn_wide.2 HC.out)).mono ?_; rintro e V2 ⟨rfl, hA⟩; have hF := HF.out V2 hA; have HFF := Lib.hid hF.2; have y1 : V2.cell? ⟨B1, 0, none⟩ = some (.int .i64 0) := (cell_of_row _ _ 0 _ _ _ hF.1.1).trans rfl; have y2 : V2.cell? ⟨B1, 1, none⟩ = some (.slice none 0 0) := (cell_of_row _ _ 1 _ _ _ hF.1.1).trans rfl; have y3 : V2.cell? ⟨B2, 0, none⟩ = some (.int .i64 0) := (cell_of_row _ _ 0 _ _ _ hF.1.2).trans rfl; have y4 : V2.frozen? ⟨B1, 0, none⟩ = false := (by have := hF.1.1; simp [World.frozen?, this]); have y5 : V2.frozen? ⟨B1, 1, none⟩ = false := (by have := hF.1.1; simp [World.frozen?, this]); have y6 : V2.frozen? ⟨B2, 0, none⟩ = false := (by have := hF.1.2; simp [World.frozen?, this]); clear hF hA)
        exact HFF.out
      | some ls =>
        dsimp only at hsnoc
        obtain ⟨g1, g2, g3⟩ := part_len hM hl100 hN1 (by omega) hfl
        obtain ⟨nl, hnl9⟩ : ∃ nl, ls.length = nl := ⟨_, rfl⟩
        obtain ⟨n7, hn7⟩ : ∃ n7, (withM st ls).length = n7 := ⟨_, rfl⟩
        obtain ⟨ns, hns⟩ : ∃ ns, st.ps.length = ns := ⟨_, rfl⟩
        have HC := Lib.hid (Calls.mono CP (R' := fun e w' => ∃ a8 c8, e = .returned (.tuple #[.slice a8 nl c8, .int .i64 0]) ∧ w'.ownsRow W.heap.size 75 2 (.slice a8 nl c8) nl (cellsP ls) ∧ AddTo W s room D1 N2 w') fun e w' hh => by
          obtain ⟨⟨a8, c8, e1, e2⟩, e3⟩ := hh
          exact ⟨a8, c8, by rw [← hnl9]; exact e1, by rw [← hnl9]; exact e2, e3⟩)
        have HF : Hid (∀ V2 a8 c8, AddTo W s room D1 N2 V2 → V2.ownsRow W.heap.size 75 2 (.slice a8 nl c8) nl (cellsP ls) → (V2.heap[Bx]? = some (.cells #[.int .i64 (st.lv : Int), .slice (A x.1) ns (C x.1), .int .i64 (st.fr : Int), .int .i64 (st.to : Int)] 81 (0, 0)) ∧ V2.heap[L]? = some (.cells #[.int .i64 (lv : Int), .slice aa ln ca] 27 (0, 0))) ∧
            Calls Try.prog 39 #[.agg #[.int .i64 (st.lv : Int), .slice (A x.1) ns (C x.1), .int .i64 (st.fr : Int), .int .i64 (st.to : Int)], .slice a8 nl c8] V2 (fun e w' => ∃ a7 c7, e = .returned (.agg #[.int .i64 (st.lv : Int), .slice a7 n7 c7]) ∧ w'.ownsRow V2.heap.size 75 2 (.slice a7 n7 c7) n7 (cellsP (withM st ls)) ∧ KeptIn (· < V2.heap.size) V2 w')) := Lib.hid fun V2 a8 c8 hA hrow8 => by
          obtain ⟨D2, hsh, hD2, hk2⟩ := hA
          have hfr : KeptIn (fun k => k < B ∧ k ≠ s) w V2 := (HB.out.2.2.2.mono fun k (hk : k < B ∧ k ≠ s) => (show k < w.heap.size by rw [hB]; exact hk.1)).trans ((hkI.mono fun k (hk : k < B ∧ k ≠ s) => (hXiff k).2 ⟨by omega, hk.2, by omega⟩).trans (hk2.mono fun k (hk : k < B ∧ k ≠ s) => ⟨by omega, hk.2⟩))
          have hps : IsPs V2 (A x.1) st.ps := psAt (X := fun k => k < B ∧ k ≠ s) p1 hfr fun p e => by
            have := p2 p e
            have := this.2.lt
            exact ⟨by omega, by omega⟩
          have hbxl := (Array.getElem?_eq_some_iff.1 hbx).1
          refine ⟨⟨(hk2.block Bx ⟨hbxl, by omega⟩).trans (by rw [← hns]; exact hbx), (hk2.block L ⟨by omega, by omega⟩).trans (by rw [← hln]; exact i4)⟩, ?_⟩
          have hr8 : V2.ownsRow W.heap.size 75 2 (.slice a8 ls.length c8) ls.length (cellsP ls) := by rw [hnl9]; exact hrow8
          have := trWithAny hps p3 hok' a8 c8 ls (row_IsPs hr8 g2) (by omega) (row_emp hr8)
          rw [hns, hnl9] at this
          refine Calls.mono this ?_
          rintro e w' ⟨a7, c7, e1, e2, e3⟩
          exact ⟨a7, c7, by rw [← hn7]; exact e1, by rw [← hn7]; exact e2, e3⟩
        have HG : Hid (∀ V2 V3 a7 c7, AddTo W s room D1 N2 V2 → KeptIn (· < V2.heap.size) V2 V3 → V3.ownsRow V2.heap.size 75 2 (.slice a7 n7 c7) n7 (cellsP (withM st ls)) → KeepsFrom W0.heap.size W ((V3.setCell ⟨L, 0, none⟩ (.int .i64 (st.lv : Int))).setCell ⟨L, 1, none⟩ (.slice a7 n7 c7)) ∧ KeptIn X W ((V3.setCell ⟨L, 0, none⟩ (.int .i64 (st.lv : Int))).setCell ⟨L, 1, none⟩ (.slice a7 n7 c7)) ∧
            ∃ lv l N1, upM (min room 511) (stepsP ws k hkn (pre ++ [x])) z.lv (withM z xs) N = (some (lv, l), N1) ∧ l.length ≤ 100 ∧ Fits l ∧ N1.length ≤ min room 511 ∧ ClI W0 s room L w.heap.size D X lv l N1 ((V3.setCell ⟨L, 0, none⟩ (.int .i64 (st.lv : Int))).setCell ⟨L, 1, none⟩ (.slice a7 n7 c7))) := Lib.hid fun V2 V3 a7 c7 hA hk3 hrow7 => by
          rw [← hn7] at hrow7 ⊢
          obtain ⟨e1, e2, e3⟩ := ClI.next (Bw := w.heap.size) hXiff hDL (by omega) (by omega) (by omega) hkI (by omega) i3 i4 hA hk3 hrow7
          have := withM_length hok' ls
          exact ⟨e3, e2, st.lv, withM st ls, N2, hsnoc, by omega, withM_fits p1.fits g2, g3, e1⟩
        unfold pgV leafV at HC
        have hLs : L < W0.heap.size := by omega
        have HLs := Lib.hid hLs
        clear CP hsnoc hM hln hXiff hDL d0 d1 d2 hWsz p1 p2 p3 hok' hsn hxl i1 i2 i3 i4 i5 hkI h hst hAC hok hNc hk1 b0 b1 b2 hnl hnn hzl hB hB1 hB2 hsz1 hgB hws hk hl hcap hcm hXe hsw hBL hsz0 hL1 hu hl100 hfl hN1 hBx hbx hpre HI0 HS HX HB H HF0 HM9 hXl2 hXlt hr hl' g1 g2 g3 hnl9 hn7 hns hLs
        gi_wp2_with (first
          | (refine ⟨trivial, ?_⟩; gi_at_call 26; refine (CallsIn.inRound l' (callsIn_wide.2 HC.out)).mono ?_; rintro e V2 ⟨a8, c8, rfl, hrow8, hA⟩; have hF := HF.out V2 a8 c8 hA hrow8; have HA := Lib.hid hA; have HW2 := Lib.hid hF.2; have HL2 := Lib.hid hF.1.2; have y1 : V2.cell? ⟨Bx, 0, none⟩ = some (.int .i64 (st.lv : Int)) := (cell_of_row _ _ 0 _ _ _ hF.1.1).trans rfl; have y2 : V2.cell? ⟨Bx, 1, none⟩ = some (.slice (A x.1) ns (C x.1)) := (cell_of_row _ _ 1 _ _ _ hF.1.1).trans rfl; have y3 : V2.cell? ⟨Bx, 2, none⟩ = some (.int .i64 (st.fr : Int)) := (cell_of_row _ _ 2 _ _ _ hF.1.1).trans rfl; have y4 : V2.cell? ⟨Bx, 3, none⟩ = some (.int .i64 (st.to : Int)) := (cell_of_row _ _ 3 _ _ _ hF.1.1).trans rfl; clear hF hA hrow8 HC HF)
          | (refine ⟨trivial, ?_⟩; gi_at_call 39; refine (CallsIn.inRound l' (callsIn_wide.2 HW2.out)).mono ?_; rintro e V3 ⟨a7, c7, rfl, hrow7, hk7⟩; have hl3 := (hk7.block L (Array.getElem?_eq_some_iff.1 HL2.out).1).trans HL2.out; have HG3 := Lib.hid (HG.out V2 V3 a7 c7 HA.out hk7 hrow7); have x1 : V3.cell? ⟨L, 0, none⟩ = some (.int .i64 (lv : Int)) := (cell_of_row _ _ 0 _ _ _ hl3).trans rfl; have x2 : V3.cell? ⟨L, 1, none⟩ = some (.slice aa ln ca) := (cell_of_row _ _ 1 _ _ _ hl3).trans rfl; have x3 : V3.frozen? ⟨L, 0, none⟩ = false := (by simp [World.frozen?, hl3]); have x4 : V3.frozen? ⟨L, 1, none⟩ = false := (by simp [World.frozen?, hl3]); clear hl3 hrow7 hk7 HW2))
        exact HG3.out
  case done =>
    rintro Dd ys W hDd rfl ⟨lv, l, N1, hu, hl100, hfl, hN1, hI⟩ hK
    obtain ⟨⟨D1, aa, ca, i1, i2, i3, i4, i5⟩, hkI⟩ := hI
    obtain ⟨h, hst, hAC, hok, hNc, hk1, b0, b1, b2, hnl, hnn, hzl, hB, hB1, hB2, hsz1, hgB, hws, hk, hl, hcap, hcm⟩ := H.out
    obtain ⟨hXe, _, hsw, hBL, hsz0, _, _, _, hL1⟩ := HX.out
    have hWsz : W0.heap.size ≤ W.heap.size := hkI.size
    have d1 : W.heap[B1]? = _ := (hkI.block B1 (by rw [hXe]; exact ⟨by omega, by omega, by omega⟩)).trans HB.out.2.1
    have d2 : W.heap[B2]? = _ := (hkI.block B2 (by rw [hXe]; exact ⟨by omega, by omega, by omega⟩)).trans HB.out.2.2.1
    subst hk
    rw [steps_all hws hkn _ (Nat.le_refl _)] at hu
    have htk : init.reverse.take init.length = init.reverse := List.take_of_length_le (by simp)
    rw [htk] at hu
    obtain ⟨cu1, cu2⟩ := climb_up (min room 511) xs N z init
    rw [← hws, hu] at cu1 cu2
    have hlv := cu2 _ rfl
    dsimp only [Option.map_some] at cu1
    have HCU := Lib.hid (And.intro cu1 hlv)
    obtain ⟨ln, hln⟩ : ∃ ln, l.length = ln := ⟨_, rfl⟩
    rw [hln] at i4 i5
    have q1 : W.cell? ⟨L, 0, none⟩ = some (.int .i64 (lv : Int)) := (cell_of_row _ _ 0 _ _ _ i4).trans rfl
    have q2 : W.cell? ⟨L, 1, none⟩ = some (.slice aa ln ca) := (cell_of_row _ _ 1 _ _ _ i4).trans rfl
    have y1 : W.cell? ⟨B1, 0, none⟩ = some (.int .i64 0) := (cell_of_row _ _ 0 _ _ _ d1).trans rfl
    have y2 : W.cell? ⟨B1, 1, none⟩ = some (.slice none 0 0) := (cell_of_row _ _ 1 _ _ _ d1).trans rfl
    have y3 : W.cell? ⟨B2, 0, none⟩ = some (.int .i64 0) := (cell_of_row _ _ 0 _ _ _ d2).trans rfl
    have y4 : W.frozen? ⟨B1, 0, none⟩ = false := by simp [World.frozen?, d1]
    have y5 : W.frozen? ⟨B1, 1, none⟩ = false := by simp [World.frozen?, d1]
    have y6 : W.frozen? ⟨B2, 0, none⟩ = false := by simp [World.frozen?, d2]
    have hB12 : ¬ B1 = B2 := by omega
    have hB21 : ¬ B2 = B1 := by omega
    obtain ⟨W8, hW8⟩ : ∃ W8, ((W.setCell ⟨B1, 0, none⟩ (.int .i64 (lv : Int))).setCell ⟨B1, 1, none⟩ (.slice aa ln ca)).setCell ⟨B2, 0, none⟩ (.int .i64 0) = W8 := ⟨_, rfl⟩
    have h8 : KeptIn (fun k => k ≠ B1 ∧ k ≠ B2) W W8 := by
      rw [← hW8]
      exact (((KeptIn.refl _ W).setCell (p := ⟨B1, 0, none⟩) (by simp) _).setCell (p := ⟨B1, 1, none⟩) (by simp) _).setCell (p := ⟨B2, 0, none⟩) (by simp) _
    have h8s : W8.heap.size = W.heap.size := by rw [← hW8]; simp
    have h8a : W8.heap[B1]? = some (.cells #[.int .i64 (lv : Int), .slice aa ln ca] 27 (0, 0)) := by
      rw [← hW8]
      have y1 : (W.setCell ⟨B1, 0, none⟩ (.int .i64 (lv : Int))).heap[B1]? = _ := heap_setCell_same _ _ _ _ _ _ d1
      rw [heap_setCell_other _ _ _ _ (by simp; omega), heap_setCell_same _ _ _ _ _ _ y1]; rfl
    have h8b : W8.heap[B2]? = some (.cells #[.int .i64 0] 32 (0, 0)) := by
      rw [← hW8]
      have y1 : ((W.setCell ⟨B1, 0, none⟩ (.int .i64 (lv : Int))).setCell ⟨B1, 1, none⟩ (.slice aa ln ca)).heap[B2]? = _ := (heap_setCell_other _ _ _ _ (by simp; omega)).trans ((heap_setCell_other _ _ _ _ (by simp; omega)).trans d2)
      rw [heap_setCell_same _ _ _ _ _ _ y1]; rfl
    obtain ⟨Wf, hWf⟩ : ∃ Wf, W8.putObj Dd (.deferred none) = Wf := ⟨_, rfl⟩
    have hD1 : Dd ≠ B1 := by omega
    have hD2 : Dd ≠ B2 := by omega
    obtain ⟨hA, hblk⟩ := an_fin (R := B1) (E := B2) (Dd := Dd) HB.out.2.2.2 (by omega) (fun k h1 h2 => by rw [hXe]; exact ⟨by omega, h2, by omega⟩) h.lt ⟨by omega, by omega⟩ ⟨by omega, by omega⟩ i1 i2 i3 hkI hK hDd h8 h8s hWf
    have hKd : W8.heap[Dd]? = some (.deferred (some [])) := (h8.block Dd ⟨hD1, hD2⟩).trans hK
    have f1 : Wf.heap[B1]? = some (.cells #[.int .i64 (lv : Int), .slice aa ln ca] 27 (0, 0)) := by rw [← hWf]; exact (World.putObj_heap_other (Ne.symm hD1)).trans h8a
    have f2 : Wf.heap[B2]? = some (.cells #[.int .i64 0] 32 (0, 0)) := by rw [← hWf]; exact (World.putObj_heap_other (Ne.symm hD2)).trans h8b
    have hrowf : Wf.ownsRow w.heap.size 75 2 (.slice aa ln ca) ln (cellsP l) := rowS_block i5 fun g9 e => by
      have hc := row_isC i5 g9 e
      have h1 := (rowS_lt i5 g9 e).1
      refine hblk g9 hc ?_ ?_
      · intro e9
        rw [e9] at hc
        rcases i5.2 with ⟨e1, _⟩ | ⟨g1, cap1, cur, e1, _, hcc, _⟩
        · rw [e1] at e; cases e
        · rw [e1] at e
          simp only [Value.ownBlock, Option.some.injEq] at e
          rw [e, e9, d1] at hcc
          simp at hcc
      · intro e9
        rw [e9] at hc
        rcases i5.2 with ⟨e1, _⟩ | ⟨g1, cap1, cur, e1, _, hcc, _⟩
        · rw [e1] at e; cases e
        · rw [e1] at e
          simp only [Value.ownBlock, Option.some.injEq] at e
          rw [e, e9, d2] at hcc
          simp at hcc
    have HE := Lib.hid (And.intro hKd (And.intro hA (And.intro f1 (And.intro f2 (And.intro hrowf (And.intro hfl hln))))))
    have HW8 := Lib.hid (And.intro hW8 hWf)
    clear hKd hA f1 f2 hrowf hfl hln hW8 hWf h8 h8s h8a h8b hblk i1 i2 i3 i4 i5 hkI hK hu cu1 cu2 hlv htk d1 d2 hWsz h hst hAC hok hNc hk1 b0 b1 b2 hnl hnn hzl hB hB1 hB2 hsz1 hgB hws hl hcap hcm hXe hsw hBL hsz0 hL1 HI0 HS HX HB H HF0 HM9 hXl2 hXlt hl100 hN1 hD1 hD2 hDd
    gi_wp2
    rw [HW8.out.1]
    refine ⟨by simp, .inl ⟨_, _, rfl, run_takeDeferred HE.out.1, ?_⟩⟩
    rw [HW8.out.2]
    have g1 : Wf.cell? ⟨B1, 0, none⟩ = some (.int .i64 (lv : Int)) := (cell_of_row _ _ 0 _ _ _ HE.out.2.2.1).trans rfl
    have g2 : Wf.cell? ⟨B1, 1, none⟩ = some (.slice aa ln ca) := (cell_of_row _ _ 1 _ _ _ HE.out.2.2.1).trans rfl
    have g3 : Wf.cell? ⟨B2, 0, none⟩ = some (.int .i64 0) := (cell_of_row _ _ 0 _ _ _ HE.out.2.2.2.1).trans rfl
    refine ⟨.tuple #[leafV (lv : Int) aa ln ca, .int .i64 0], ?_, ?_⟩
    · simp [results, Try.f23, go_sem, g1, g2, g3, leafV]
    · rw [HCU.out.1]
      refine ⟨⟨aa, ca, ?_, ?_, HE.out.2.2.2.2.2.1⟩, HE.out.2.1⟩
      · rw [HE.out.2.2.2.2.2.2, ← HCU.out.2]
      · rw [HE.out.2.2.2.2.2.2]; exact HE.out.2.2.2.2.1
  case stop =>
    rintro Dd c pre W hDd ⟨q, hq, rfl⟩ ⟨rfl, N1, D', hu, i1, i2, i3, h6, h7, hkI⟩ hK
    obtain ⟨h, hst, hAC, hok, hNc, hk1, b0, b1, b2, hnl, hnn, hzl, hB, hB1, hB2, hsz1, hgB, hws, hk, hl, hcap, hcm⟩ := H.out
    obtain ⟨hXe, _, hsw, hBL, hsz0, _, _, _, hL1⟩ := HX.out
    subst hk
    rw [steps_all hws hkn _ hq] at hu
    have hu2 := upM_none (min room 511) (init.reverse.drop (q + 1)) _ _ _ _ _ hu
    rw [List.take_append_drop] at hu2
    obtain ⟨cu1, cu2⟩ := climb_up (min room 511) xs N z init
    rw [← hws, hu2] at cu1
    have cu3 : climbM (min room 511) ws xs N = (none, N1) := cu1
    obtain ⟨Wf, hWf⟩ : ∃ Wf, W.putObj Dd (.deferred none) = Wf := ⟨_, rfl⟩
    have hA : AddTo w s room D N1 Wf := an_stop (R := B1) (E := B2) (Dd := Dd) HB.out.2.2.2 (by omega) (X := fun k => X k ∧ k ≠ B1 ∧ k ≠ B2) (fun k h1 h2 => by rw [hXe]; exact ⟨⟨by omega, h2, by omega⟩, by omega, by omega⟩) i1 i2 i3 hkI hK hDd hWf
    have f1 : Wf.heap[B1]? = some (.cells #[.int .i64 0, .slice none 0 0] 27 (0, 0)) := by rw [← hWf]; exact (World.putObj_heap_other (by omega)).trans h6
    have f2 : Wf.heap[B2]? = some (.cells #[.int .i64 6] 32 (0, 0)) := by rw [← hWf]; exact (World.putObj_heap_other (by omega)).trans h7
    have HE := Lib.hid (And.intro hK (And.intro hA (And.intro f1 (And.intro f2 (And.intro cu3 hWf)))))
    clear hA f1 f2 hWf i1 i2 i3 hkI hK hu hu2 cu1 cu2 cu3 h6 h7 h hst hAC hok hNc hk1 b0 b1 b2 hnl hnn hzl hB hB1 hB2 hsz1 hgB hws hl hcap hcm hXe hsw hBL hsz0 hL1 HI0 HS HX HB H HF0 HM9 hXl2 hXlt hDd
    gi_wp2
    refine ⟨by simp, .inl ⟨_, _, rfl, run_takeDeferred HE.out.1, ?_⟩⟩
    rw [HE.out.2.2.2.2.2]
    have g1 : Wf.cell? ⟨B1, 0, none⟩ = some (.int .i64 0) := (cell_of_row _ _ 0 _ _ _ HE.out.2.2.1).trans rfl
    have g2 : Wf.cell? ⟨B1, 1, none⟩ = some (.slice none 0 0) := (cell_of_row _ _ 1 _ _ _ HE.out.2.2.1).trans rfl
    have g3 : Wf.cell? ⟨B2, 0, none⟩ = some (.int .i64 6) := (cell_of_row _ _ 0 _ _ _ HE.out.2.2.2.1).trans rfl
    refine ⟨.tuple #[leafV 0 none 0 0, .int .i64 6], ?_, ?_⟩
    · simp [results, Try.f23, go_sem, g1, g2, g3, leafV]
    · rw [HE.out.2.2.2.2.1]
      exact ⟨rfl, HE.out.2.1⟩

end Go.Proofs.Ytjollbaohopmjaa
/- Package tree's growsTooHigh, Put. -/
set_option linter.unusedVariables false
namespace Go.Proofs.Ytjollbaohopmjaa
open Go.RowKit

theorem trHigh (a : Option Addr) (n cap : Nat) (h : n < 8) (w : World) : Calls Try.prog 25 #[.slice a n cap] w fun e w' => e = .returned (.bool false) ∧ w' = w := by
  have h1 : (n : Int) < 8 := by omega
  have h2 : ((n : Int) < 8) ↔ True := by simp [h1]
  go_enter Try.func25, Try.ntmps25
  go_wp2_with fail
  go_ret
  exact ⟨rfl, rfl⟩

theorem way_ok {N : List Nd} {k : Nat} : ∀ {ws : List Stp} {root : Bool} {lv : Int} {lo hi p : Nat}, WayG N k ws root lv lo hi p → (∀ t ∈ ws, StOk t ∧ t.lv ≤ 7) ∧ ws ≠ [] := by
  intro ws
  induction ws with
  | nil => intro root lv lo hi p h; exact h.elim
  | cons t r ih =>
    intro root lv lo hi p h
    cases r with
    | nil =>
      obtain ⟨h1, h2, h3, h4, h5⟩ := h
      obtain ⟨g1, g2⟩ := fit_good h3
      obtain ⟨t1, t2, t3⟩ := toOf_le ((rises_srt _).1 (good_rises g1)) k
      obtain ⟨_, _, g3⟩ := good_parts g1
      refine ⟨fun u hu => ?_, by simp⟩
      rw [List.mem_singleton.1 hu]
      exact ⟨⟨by omega, by omega, g3⟩, by omega⟩
    | cons u r =>
      obtain ⟨h1, h2, h3, h4, h5, h6⟩ := h
      obtain ⟨g1, g2⟩ := fit_good h3
      obtain ⟨_, g4, g3⟩ := good_parts g1
      have := kidOf_lt t.ps k g2
      refine ⟨fun y hy => ?_, by simp⟩
      rcases List.mem_cons.1 hy with rfl | hy
      · exact ⟨⟨by omega, by omega, g3⟩, by omega⟩
      · exact (ih h6).1 y hy
theorem desc_ok {N : List Nd} {k root : Nat} {ws : List Stp} (h : DescW N k root ws) : (∀ t ∈ ws, StOk t ∧ t.lv ≤ 7) ∧ ws ≠ [] := by
  rcases h with ⟨_, rfl⟩ | h
  · refine ⟨fun t ht => ?_, by simp⟩
    rw [List.mem_singleton.1 ht]
    exact ⟨⟨Nat.le_refl _, Nat.le_refl _, Nat.zero_le _⟩, Nat.zero_le _⟩
  · exact way_ok h
theorem lvOf_le {ws : List Stp} (h : (∀ t ∈ ws, StOk t ∧ t.lv ≤ 7) ∧ ws ≠ []) : lvOf ws ≤ 7 := by
  cases ws with
  | nil => exact absurd rfl h.2
  | cons t r => exact (h.1 t (by simp)).2

/-- descend, of the tree without pairs too. -/
theorem trDesc {w : World} {s room : Nat} {N : List Nd} {D : Nat → Prop} (h : IsSh w s room N D) (k root : Nat) (hk : k < 18446744073709551616) (ws : List Stp) (hw : DescW N k root ws) (hlen : ws.length ≤ 1000) :
    Calls Try.prog 21 #[pgV s, .int .i64 (root : Int), .int .u64 (k : Int)] w (fun e w' => ∃ g cap, e = .returned (.tuple #[.slice (some ⟨g, 0, none⟩) ws.length cap, .int .i64 0]) ∧ WayR w' w.heap.size (.slice (some ⟨g, 0, none⟩) ws.length cap) ws ∧ w.heap.size ≤ g ∧ KeptIn (· < w.heap.size) w w') := by
  have hpos : 0 < ws.length := by
    have := (desc_ok hw).2
    cases ws with
    | nil => exact absurd rfl this
    | cons t r => simp
  have fin : ∀ e w', DescS w ws e w' → ∃ g cap, e = .returned (.tuple #[.slice (some ⟨g, 0, none⟩) ws.length cap, .int .i64 0]) ∧ WayR w' w.heap.size (.slice (some ⟨g, 0, none⟩) ws.length cap) ws ∧ w.heap.size ≤ g ∧ KeptIn (· < w.heap.size) w w' := by
    rintro e w' ⟨v, rfl, ⟨xs, h1, h2⟩, h3⟩
    obtain ⟨g, cap, rfl, hg, _⟩ := h1.form hpos
    exact ⟨g, cap, rfl, ⟨xs, h1, h2⟩, hg, h3⟩
  rcases hw with ⟨rfl, rfl⟩ | hw
  · exact (trDescendNil s k w).mono fin
  · exact (trDescend h k hk ws root hw hlen).mono fin

theorem WayR.old {W W' : World} {B0 : Nat} {v : Value} {ws : List Stp} (h : WayR W B0 v ws) (hk : KeptIn (· < W.heap.size) W W') : WayR W' B0 v ws := by
  obtain ⟨xs, h1, h2⟩ := h
  exact ⟨xs, rowS_block h1 fun g e => hk.block g (rowS_lt h1 g e).2, h2.old hk⟩

theorem way_split {ws : List Stp} (h : ws ≠ []) : ∃ init z, ws = init ++ [z] := ⟨ws.dropLast, ws.getLast h, (List.dropLast_concat_getLast h).symm⟩

theorem ps_new (V : World) (k v : Nat) (hk : k < 18446744073709551616) (hv : v < 18446744073709551616) : IsPs (V.alloc (.cells #[.int .u64 (k : Int), .int .u64 (v : Int)] 75)) (some ⟨V.heap.size, 0, none⟩) [(k, v)] := by
  have hb := heap_alloc_new V (.cells #[.int .u64 (k : Int), .int .u64 (v : Int)] 75)
  refine ⟨by simp [maxLen], fun p hp => by rw [List.mem_singleton.1 hp]; exact ⟨hk, hv⟩, fun _ => ⟨V.heap.size, 0, rfl, by simp, fun i hi => ?_⟩⟩
  obtain rfl : i = 0 := by simpa using hi
  exact ⟨(cell_of_row _ _ 0 _ _ _ hb).trans rfl, (cell_of_row _ _ 1 _ _ _ hb).trans rfl⟩

theorem part_some_pos {c lv : Nat} {l : Pairs} {N : List Nd} {ls : Pairs} {N1 : List Nd} (h : partM c lv l N = (some ls, N1)) (h0 : 0 < l.length) : 0 < ls.length ∧ ∀ i, i < ls.length → valAt ls i ≤ c := by
  unfold partM at h
  obtain ⟨m, hm⟩ : ∃ m, (if 15 < l.length then 8 else 15) = m := ⟨_, rfl⟩
  have hm8 : m = 8 ∨ m = 15 := by rw [← hm]; split <;> omega
  rw [hm] at h
  obtain ⟨h1, h2, h3⟩ := nodesM_some h
  refine ⟨by rw [h1, leadsOf_length]; unfold partsOf; rcases hm8 with rfl | rfl <;> omega, fun i hi => ?_⟩
  rw [valAt_get hi]
  simp only [h1, leadsOf, List.getElem_map, List.getElem_range]
  rw [h1, leadsOf_length] at hi
  omega

theorem withM_pos {s : Stp} {ls : Pairs} (h : 0 < ls.length) : 0 < (withM s ls).length := by
  unfold withM; simp only [List.length_append]; omega

/-- What climbs, in numbers. -/
theorem climb_bounds {c : Nat} (hc : c ≤ 511) {xs : Pairs} (hx : xs.length ≤ 1) (hxf : Fits xs) : ∀ {ws : List Stp} {N : List Nd} {l : Pairs} {N1 : List Nd}, (∀ t ∈ ws, StOk t ∧ Fits t.ps) → ws ≠ [] → N.length ≤ c → climbM c ws xs N = (some l, N1) → l.length ≤ 100 ∧ Fits l ∧ N1.length ≤ c ∧ (0 < xs.length → 0 < l.length) := by
  intro ws
  induction ws with
  | nil => intro N l N1 _ h; exact absurd rfl h
  | cons s r ih =>
    intro N l N1 hok _ hN e
    cases r with
    | nil =>
      obtain ⟨e1, e2⟩ := Prod.mk.inj e
      obtain rfl := Option.some.inj e1
      obtain ⟨h1, h2⟩ := hok s (by simp)
      have := withM_length h1 xs
      exact ⟨by omega, withM_fits h2 hxf, by rw [← e2]; exact hN, withM_pos⟩
    | cons t r =>
      unfold climbM at e
      cases hcl : climbM c (t :: r) xs N with
      | mk o N2 =>
        rw [hcl] at e
        cases o with
        | none => cases (Prod.mk.inj e).1
        | some l1 =>
          obtain ⟨g1, g2, g3, g4⟩ := ih (fun u hu => hok u (List.mem_cons_of_mem _ hu)) (by simp) hN hcl
          dsimp only at e
          cases hp : partM c t.lv l1 N2 with
          | mk o2 N3 =>
            rw [hp] at e
            cases o2 with
            | none => cases (Prod.mk.inj e).1
            | some ls =>
              obtain ⟨e1, e2⟩ := Prod.mk.inj e
              obtain rfl := Option.some.inj e1
              obtain ⟨k1, k2, k3⟩ := part_len hp g1 g3 hc g2
              obtain ⟨h1, h2⟩ := hok s (by simp)
              have := withM_length h1 ls
              exact ⟨by omega, withM_fits h2 k2, by rw [← e2]; exact k3, fun hx => withM_pos (part_some_pos hp (g4 hx)).1⟩

theorem wayR_fits {W : World} {B0 : Nat} {v : Value} {ws : List Stp} (h : WayR W B0 v ws) : ∀ t ∈ ws, Fits t.ps := by
  obtain ⟨xs, _, h2⟩ := h
  obtain ⟨A, C, hAC⟩ := way_at h2
  intro t ht
  obtain ⟨i, hi, rfl⟩ := List.getElem_of_mem ht
  exact (hAC i hi).2.2.2.2.1.fits

theorem pu_lv (lv : Nat) (h : lv ≤ 7) : wrap64 ((lv : Int) + 1) = ((lv + 1 : Nat) : Int) := by unfold wrap64; omega
theorem pu_gt (n : Nat) (h : 1 < n) : (1 : Int) < (n : Int) ∧ ¬ ((n : Int) ≤ 1) := by omega
theorem pu_le (n : Nat) (h : ¬ 1 < n) : ¬ ((1 : Int) < (n : Int)) ∧ (n : Int) ≤ 1 := by omega


set_option maxRecDepth 100000 in
set_option maxHeartbeats 2000000 in
theorem trPut {w : World} {s room : Nat} {N : List Nd} {D : Nat → Prop} (h : IsSh w s room N D) (root k v : Nat) (hk : k < 18446744073709551616) (hv : v < 18446744073709551616) (ws : List Stp) (hw : DescW N k root ws) (hl7 : ws.length ≤ 7) (hNc : N.length ≤ min room 511) :
    Calls Try.prog 13 #[pgV s, .int .i64 (root : Int), .int .u64 (k : Int), .int .u64 (v : Int)] w (PageS w s room D (putM (min room 511) ws (k, v) N)) := by
  have hdok := desc_ok hw
  have hlv := lvOf_le hdok
  obtain ⟨init, z, hsp⟩ := way_split hdok.2
  have HD := Lib.hid (trDesc h k root hk ws hw (by omega))
  obtain ⟨n, hn⟩ : ∃ n, ws.length = n := ⟨_, rfl⟩
  obtain ⟨lv, hlve⟩ : ∃ lv, lvOf ws = lv := ⟨_, rfl⟩
  have hsw := h.lt s h.ds
  have hc511 : min room 511 ≤ 511 := by omega
  have HDC : Hid (∀ V g cap, WayR V w.heap.size (.slice (some ⟨g, 0, none⟩) n cap) ws → w.heap.size ≤ g → KeptIn (· < w.heap.size) w V → Calls Try.prog 23 #[pgV s, .slice (some ⟨g, 0, none⟩) n cap, .slice (some ⟨V.heap.size, 0, none⟩) 1 1] (V.alloc (.cells #[.int .u64 (k : Int), .int .u64 (v : Int)] 75)) (BodyS (V.alloc (.cells #[.int .u64 (k : Int), .int .u64 (v : Int)] 75)) s room D lv (climbM (min room 511) ws [(k, v)] N))) := Lib.hid fun V g cap hway hg hkV => by
    have hkA : KeptIn (· < V.heap.size) V (V.alloc (.cells #[.int .u64 (k : Int), .int .u64 (v : Int)] 75)) := (KeptIn.refl _ V).alloc (fun _ h => h) _
    have := trClimb ((h.old hkV).old hkA) hsw g cap ws init z hsp (by rw [hn]; exact hway.old hkA) hg (by omega) (fun t ht => (hdok.1 t ht).1) (some ⟨V.heap.size, 0, none⟩) 1 [(k, v)] (ps_new V k v hk hv) (by simp) (fun e => by simp at e) hNc
    rw [hn, hlve] at this
    exact this
  have hhigh : Hid (∀ g cap V, Calls Try.prog 25 #[.slice (some ⟨g, 0, none⟩) n cap] V fun e w' => e = .returned (.bool false) ∧ w' = V) := Lib.hid fun g cap V => trHigh _ n cap (by omega) V
  have hxf : Fits [(k, v)] := fun p hp => by rw [List.mem_singleton.1 hp]; exact ⟨hk, hv⟩
  have hlvw := pu_lv lv (by omega)
  rw [hn] at HD
  obtain ⟨R, hR⟩ : ∃ R, putM (min room 511) ws (k, v) N = R := ⟨_, rfl⟩
  rw [hR]
  unfold putM at hR
  rw [hlve] at hR
  cases hcl : climbM (min room 511) ws [(k, v)] N with
  | mk o1 N1 =>
    rw [hcl] at HDC hR
    cases o1 with
    | none =>
      dsimp only at hR
      subst hR
      have HC0 := Lib.hid fun V g cap hway hg hkV => Calls.mono (HDC.out V g cap hway hg hkV) (R' := fun e w' => e = .returned (.tuple #[.agg #[.int .i64 0, .slice none 0 0], .int .i64 6]) ∧ AddTo w s room D N1 w') fun e w' ⟨h1, h2⟩ => ⟨h1, h2.from (hkV.go ((KeptIn.refl _ V).alloc (fun _ h => h) _))⟩
      unfold pgV at *
      clear hdok hsp hw hl7 hNc hlv hcl hxf h hc511 HDC
      go_enter Try.func13, Try.ntmps13
      go_wp2_with (go_at_call 21; refine HD.out.mono ?_; rintro e V ⟨g, cap, rfl, hway, hg, hkV⟩; have HC := Lib.hid (HC0.out V g cap hway hg hkV); clear hway hg hkV HC0)
      go_wp2_with (go_at_call 25; refine (hhigh.out g cap _).mono ?_; rintro e V' ⟨rfl, rfl⟩)
      go_wp2_with (go_at_call 23; refine HC.out.mono ?_; rintro e V2 ⟨rfl, hA⟩; have HA := Lib.hid hA; clear hA HC)
      go_ret2
      exact ⟨⟨0, 6, rfl, rfl, rfl⟩, HA.out.old ((KeptIn.refl _ _).alloc (fun _ h => h) _)⟩
    | some l =>
      dsimp only at hR
      have HRR := Lib.hid hR
      clear hR
      obtain ⟨m, hm⟩ : ∃ m, l.length = m := ⟨_, rfl⟩
      have HC0 := Lib.hid fun V g cap (hway : WayR V w.heap.size (.slice (some ⟨g, 0, none⟩) n cap) ws) hg (hkV : KeptIn (· < w.heap.size) w V) => Calls.mono (HDC.out V g cap hway hg hkV) (R' := fun e w' => ∃ a cap, e = .returned (.tuple #[.agg #[.int .i64 (lv : Int), .slice a m cap], .int .i64 0]) ∧ w'.ownsRow w.heap.size 75 2 (.slice a m cap) m (cellsP l) ∧ Fits l ∧ AddTo w s room D N1 w' ∧ ∀ t ∈ ws, Fits t.ps) fun e w' ⟨⟨a, cap, h1, h2, h3⟩, h4⟩ => by
        have hkA := hkV.go ((KeptIn.refl _ V).alloc (fun _ h => h) (.cells #[.int .u64 (k : Int), .int .u64 (v : Int)] 75))
        exact ⟨a, cap, by rw [← hm]; exact h1, by rw [← hm]; exact row_weaken h2 hkA.size, h3, h4.from hkA, wayR_fits hway⟩
      have HB := Lib.hid fun (hf : ∀ t ∈ ws, Fits t.ps) => climb_bounds hc511 (xs := [(k, v)]) (by simp) hxf (fun t ht => ⟨(hdok.1 t ht).1, hf t ht⟩) hdok.2 hNc hcl
      have HLV := Lib.hid (And.intro hlvw (And.intro hlv (And.intro hlve (And.intro hsw hm))))
      unfold pgV at HD HC0 ⊢
      clear hdok hsp hw hl7 hNc hlv hcl hxf h hc511 HDC hsw hlvw hm hlve
      go_enter Try.func13, Try.ntmps13
      go_wp2_with (go_at_call 21; refine HD.out.mono ?_; rintro e V ⟨g, cap, rfl, hway, hg, hkV⟩; have HC := Lib.hid (HC0.out V g cap hway hg hkV); clear hway hg hkV HC0)
      go_wp2_with (go_at_call 25; refine (hhigh.out g cap _).mono ?_; rintro e V' ⟨rfl, rfl⟩)
      go_wp2_with (go_at_call 23; refine HC.out.mono ?_; rintro e V2 ⟨a9, c9, rfl, hrow, hfl, hA, hfs⟩; have HR := Lib.hid (And.intro hrow (And.intro hfl (And.intro hA hfs))); clear hrow hfl hA hfs HC)
      obtain ⟨b1, b2, b3, b4⟩ := HB.out HR.out.2.2.2
      obtain ⟨V3, hV3⟩ : ∃ V3, V2.alloc (.cells #[.int .i64 (lv : Int), .slice a9 m c9] 27) = V3 := ⟨_, rfl⟩
      obtain ⟨y, hy⟩ : ∃ y, V2.heap.size = y := ⟨_, rfl⟩
      have hk3 : KeptIn (· < V2.heap.size) V2 V3 := by rw [← hV3]; exact (KeptIn.refl _ V2).alloc (fun _ h => h) _
      have hb3 : BoxL y (lv : Int) a9 m c9 V3 := by rw [← hV3, ← hy]; exact BoxL.new V2 _ _ _ _
      obtain ⟨D2, hsh, hD2, hkw⟩ := HR.out.2.2.1.old hk3
      have hrow3 : V3.ownsRow w.heap.size 75 2 (.slice a9 m c9) m (cellsP l) := rowS_block HR.out.1 fun g e => hk3.block g (rowS_lt HR.out.1 g e).2
      have hrow3' := hrow3
      rw [← HLV.out.2.2.2.2] at hrow3'
      have CP := trParted hsh lv c9 a9 l (row_listOk hrow3' HR.out.2.1 HLV.out.2.2.2.1) (by omega) b3
      rw [HLV.out.2.2.2.2] at CP
      have d0 := hb3.c0
      have d1 := hb3.c1
      cases hM : partM (min room 511) lv l N1 with
      | mk o2 N2 =>
        have hR := HRR.out
        rw [hM] at CP hR
        clear HRR
        rw [hV3]
        simp only [hy]
        cases o2 with
        | none =>
          dsimp only at hR
          subst hR
          have HP := Lib.hid (Calls.mono CP (R' := fun e w' => e = .returned (.tuple #[.slice none 0 0, .int .i64 6]) ∧ AddTo w s room D N2 w') fun e w' ⟨h1, h2⟩ => ⟨h1, AddTo.trans hD2 hkw h2⟩)
          unfold pgV leafV at HP
          clear CP hM hrow3 hrow3' hsh hD2 hkw hb3 hk3 HB HR b1 b2 b3 b4
          go_wp2_with (go_at_call 26; refine HP.out.mono ?_; rintro e V4 ⟨rfl, hA⟩; have HA := Lib.hid hA; clear hA HP)
          go_ret2
          exact ⟨⟨0, 6, rfl, rfl, rfl⟩, HA.out⟩
        | some ls =>
          dsimp only at hR
          obtain ⟨nl, hnl⟩ : ∃ nl, ls.length = nl := ⟨_, rfl⟩
          obtain ⟨p1, p2, p3⟩ := part_len hM b1 b3 (by omega) b2
          obtain ⟨p4, p5⟩ := part_some_pos hM (b4 (by simp))
          have HP := Lib.hid (Calls.mono CP (R' := fun e w' => ∃ a8 c8 D3, e = .returned (.tuple #[.slice a8 nl c8, .int .i64 0]) ∧ w'.ownsRow w.heap.size 75 2 (.slice a8 nl c8) nl (cellsP ls) ∧ IsSh w' s room N2 D3 ∧ (∀ k, D3 k → D k ∨ w.heap.size ≤ k) ∧ KeptIn (fun k => k < w.heap.size ∧ k ≠ s) w w' ∧ y < w'.heap.size ∧ w'.heap[y]? = V3.heap[y]?) fun e w' ⟨⟨a8, c8, h1, h2⟩, h3⟩ => by
            obtain ⟨D3, h5, h6, h7⟩ := AddTo.trans hD2 hkw h3
            obtain ⟨_, _, _, h8⟩ := h3
            have hyl := hb3.lt
            have hsy : s < w.heap.size := HLV.out.2.2.2.1
            have hwy : w.heap.size ≤ y := by rw [← hy]; exact HR.out.2.2.1.choose_spec.2.2.size
            exact ⟨a8, c8, D3, by rw [← hnl]; exact h1, by rw [← hnl]; exact row_weaken h2 (by have := hkw.size; omega), h5, h6, h7, Nat.lt_of_lt_of_le hyl h8.size, h8.block y ⟨hyl, by omega⟩⟩)
          have HBY := Lib.hid hb3
          have HLS := Lib.hid (And.intro p1 (And.intro p2 (And.intro p3 (And.intro p4 (And.intro p5 hnl)))))
          unfold pgV leafV at HP
          clear CP hM hrow3 hrow3' hsh hD2 hkw hb3 hk3 HB HR b1 b2 b3 b4 p1 p2 p3 p4 p5
          by_cases hgt : 1 < ls.length
          · rw [if_pos hgt, hnl] at hR
            subst hR
            obtain ⟨t1, t2⟩ := pu_gt nl (by omega)
            clear hgt
            go_wp2_with (go_at_call 26; refine HP.out.mono ?_; rintro e V4 ⟨a8, c8, D3, rfl, hrow8, hsh, hD3, hkw, hyl, hyb⟩; have hb4 : BoxL y (lv : Int) a9 m c9 V4 := hyb.trans HBY.out; have e0 := hb4.c0; have HQ := Lib.hid (And.intro hrow8 (And.intro hsh (And.intro hD3 hkw))); clear hrow8 hsh hD3 hkw hyl hyb hb4 HP)
            rw [HLV.out.1]
            obtain ⟨hrow8, hsh, hD3, hkw⟩ := HQ.out
            have hrow8' := hrow8
            rw [← HLS.out.2.2.2.2.2] at hrow8'
            have CL := trPile hsh (lv + 1) c8 ls.length a8 ls (row_listOk hrow8' HLS.out.2.1 HLV.out.2.2.2.1) (by have := HLS.out.1; omega) (by have := HLV.out.2.1; have := HLV.out.2.2.1; omega) HLS.out.2.2.1 (Nat.le_refl _)
            rw [HLS.out.2.2.2.2.2] at CL
            have HL := Lib.hid (Calls.mono CL (R' := fun e w' => ∃ p er : Nat, e = .returned (.tuple #[.int .i64 (p : Int), .int .i64 (er : Int)]) ∧ PageS w s room D (pileM (min room 511) nl (lv + 1) ls N2) e w') fun e w' h1 => by
              have h2 := h1
              obtain ⟨⟨p, er, e1, e2⟩, e3⟩ := h1
              exact ⟨p, er, e1, ⟨p, er, e1, e2⟩, AddTo.trans hD3 hkw e3⟩)
            unfold pgV at HL
            clear hrow8 hsh hD3 hkw hrow8' CL
            go_wp2_with (go_at_call 27; refine HL.out.mono ?_; rintro e V5 ⟨p, er, rfl, hS⟩; have HS := Lib.hid hS; clear hS HL)
            go_ret2
            exact HS.out
          · rw [if_neg hgt] at hR
            subst hR
            obtain ⟨t1, t2⟩ := pu_le nl (by omega)
            have q0 : 0 < nl := by have := HLS.out.2.2.2.1; omega
            have q1 : (0 : Int) < (nl : Int) := by omega
            obtain ⟨vv, hvv⟩ : ∃ vv, valAt ls 0 = vv := ⟨_, rfl⟩
            have hv511 : vv ≤ 511 := by have := HLS.out.2.2.2.2.1 0 HLS.out.2.2.2.1; omega
            obtain ⟨u1, u2⟩ := to_page vv hv511
            have HVV := Lib.hid hvv
            clear hgt hvv hv511
            go_wp2_with (go_at_call 26; refine HP.out.mono ?_; rintro e V4 ⟨a8, c8, D3, rfl, hrow8, hsh, hD3, hkw, hyl, hyb⟩; obtain ⟨b9, o9, rfl, hb9, hc9⟩ := (row_IsPs (qs := ls) (by rw [HLS.out.2.2.2.2.2]; exact hrow8) HLS.out.2.1).cells HLS.out.2.2.2.1; have x1 := (hc9 0 HLS.out.2.2.2.1).2; rw [HVV.out, Nat.zero_mul, Nat.add_zero] at x1; have HA := Lib.hid (And.intro hsh (And.intro hD3 hkw)); clear hrow8 hsh hD3 hkw hyl hyb hc9 hb9 HP)
            go_ret2
            exact ⟨⟨vv, 0, rfl, HVV.out.symm, rfl⟩, D3, HA.out⟩

end Go.Proofs.Ytjollbaohopmjaa
/- Package tree's keysRise, Build; Get. -/
set_option linter.unusedVariables false
namespace Go.Proofs.Ytjollbaohopmjaa
open Go.RowKit

/-- What Get answers. -/
def GetS (w : World) (z : Stp) (e : Ending) (w' : World) : Prop :=
  e = .returned (.tuple #[.int .u64 ((if z.fr = z.to then 0 else valAt z.ps z.fr : Nat) : Int), .bool (decide (z.fr ≠ z.to)), .int .i64 0]) ∧ KeptIn (· < w.heap.size) w w'

theorem ge_nums (n k : Nat) (h : k + 1 = n) (hn : n ≤ 1000) : wrap64 ((n : Int) - 1) = (k : Int) ∧ (0 : Int) ≤ (k : Int) ∧ (k : Int) < (n : Int) := by
  refine ⟨by unfold wrap64; omega, by omega, by omega⟩

theorem rg_idx (j n : Nat) (h : j < n) (hn : n ≤ 1000) : (j : Int) < (n : Int) ∧ (0 : Int) ≤ (j : Int) ∧ wrap64 ((j : Int) + 1) = ((j + 1 : Nat) : Int) ∧ ¬ ((n : Int) ≤ (j : Int)) := by
  refine ⟨by omega, by omega, by unfold wrap64; omega, by omega⟩
theorem rg_meas (j n : Nat) (h : j < n) : n - ((j : Int) + 1).toNat < n - ((j : Int).toNat) := by omega
theorem rg_succ (j : Nat) : (j : Int) + 1 = ((j + 1 : Nat) : Int) := by omega
theorem rg_ge {j n : Nat} (h : ¬ j < n) : ¬ ((j : Int) < (n : Int)) ∧ (n : Int) ≤ (j : Int) := by omega
theorem row_at {w w' : World} {B n : Nat} {v : Value} {xs : List Value} (h : w.ownsRow B 75 2 v n xs) (hk : KeptIn (· < w.heap.size) w w') : w'.ownsRow B 75 2 v n xs :=
  rowS_block h fun g e => hk.block g (rowS_lt h g e).2


end Go.Proofs.Ytjollbaohopmjaa
/- What Range answers: the mathematics. -/
set_option linter.unusedVariables false
namespace Go.Proofs.Ytjollbaohopmjaa
open Go.RowKit

/-- Pairs with keys from low to high. -/
def rng (low high : Nat) (qs : Pairs) : Pairs := qs.filter fun p => decide (low ≤ p.1) && decide (p.1 ≤ high)
theorem rng_append (low high : Nat) (a b : Pairs) : rng low high (a ++ b) = rng low high a ++ rng low high b := by simp [rng]
theorem rng_below {low high : Nat} {qs : Pairs} (h : ∀ p ∈ qs, p.1 < low) : rng low high qs = [] := by
  unfold rng; rw [List.filter_eq_nil_iff]; intro p hp; have := h p hp; simp; omega
theorem rng_above {low high : Nat} {qs : Pairs} (h : ∀ p ∈ qs, high < p.1) : rng low high qs = [] := by
  unfold rng; rw [List.filter_eq_nil_iff]; intro p hp; have := h p hp; simp; omega
theorem rng_all {low high : Nat} {qs : Pairs} (h : ∀ p ∈ qs, low ≤ p.1 ∧ p.1 ≤ high) : rng low high qs = qs := by
  unfold rng; rw [List.filter_eq_self]; intro p hp; have := h p hp; simp; omega

theorem mem_take_key {qs : Pairs} {j : Nat} {p : Nat × Nat} (h : p ∈ qs.take j) : ∃ i, i < j ∧ i < qs.length ∧ keyAt qs i = p.1 := by
  obtain ⟨i, hi, e⟩ := List.getElem_of_mem h
  rw [List.length_take] at hi
  rw [List.getElem_take] at e
  exact ⟨i, by omega, by omega, by rw [keyAt_get (by omega), e]⟩
theorem mem_drop_key {qs : Pairs} {j : Nat} {p : Nat × Nat} (h : p ∈ qs.drop j) : ∃ i, j ≤ i ∧ i < qs.length ∧ keyAt qs i = p.1 := by
  obtain ⟨i, hi, e⟩ := List.getElem_of_mem h
  rw [List.length_drop] at hi
  rw [List.getElem_drop] at e
  exact ⟨j + i, by omega, by omega, by rw [keyAt_get (by omega), e]⟩

theorem below_sides {qs : Pairs} (hs : Srt qs) (k : Nat) : (∀ i, i < belowK qs k → keyAt qs i < k) ∧ (∀ i, belowK qs k ≤ i → i < qs.length → k ≤ keyAt qs i) := by
  have hb : belowK qs k ≤ qs.length := List.countP_le_length
  have e := filter_lt_take hs k
  constructor
  · intro i hi
    have : qs[i] ∈ qs.take (belowK qs k) := by
      rw [List.mem_take_iff_getElem]
      exact ⟨i, by omega, rfl⟩
    rw [← e] at this
    have := (List.mem_filter.1 this).2
    rw [keyAt_get (by omega)]
    simpa using this
  · intro i h1 h2
    rcases Nat.lt_or_ge (keyAt qs i) k with h | h
    · exfalso
      have hm : qs[i] ∈ qs.filter fun p => decide (p.1 < k) := List.mem_filter.2 ⟨List.getElem_mem h2, by rw [keyAt_get h2] at h; simpa using h⟩
      rw [e] at hm
      obtain ⟨j, hj1, hj2, hj3⟩ := mem_take_key hm
      have := rises_lt ((rises_srt _).2 hs) (show j < i by omega) h2
      rw [keyAt_get h2] at this
      omega
    · exact h

/-- In a leaf. -/
theorem rng_leaf {qs : Pairs} (hs : Srt qs) (low high j : Nat) (h1 : belowK qs low ≤ j) (h2 : j ≤ qs.length) (h3 : ∀ i, belowK qs low ≤ i → i < j → keyAt qs i ≤ high) (h4 : j < qs.length → high < keyAt qs j) : rng low high qs = (qs.take j).drop (belowK qs low) := by
  obtain ⟨b1, b2⟩ := below_sides hs low
  have e : qs = (qs.take j).take (belowK qs low) ++ (qs.take j).drop (belowK qs low) ++ qs.drop j := by rw [List.take_append_drop, List.take_append_drop]
  have r1 : rng low high ((qs.take j).take (belowK qs low)) = [] := rng_below fun p hp => by
    rw [List.take_take] at hp
    obtain ⟨i, i1, i2, i3⟩ := mem_take_key hp
    have := b1 i (by omega)
    omega
  have r3 : rng low high (qs.drop j) = [] := rng_above fun p hp => by
    obtain ⟨i, i1, i2, i3⟩ := mem_drop_key hp
    have := h4 (by omega)
    rcases Nat.lt_or_ge j i with h | h
    · have := rises_lt ((rises_srt _).2 hs) h i2; omega
    · obtain rfl : i = j := by omega
      omega
  have r2 : rng low high ((qs.take j).drop (belowK qs low)) = (qs.take j).drop (belowK qs low) := rng_all fun p hp => by
    obtain ⟨i, i1, i2, i3⟩ := mem_drop_key hp
    rw [List.length_take] at i2
    have i3' : keyAt qs i = p.1 := by
      rw [← i3, keyAt_get (by omega), keyAt_get (by rw [List.length_take]; omega), List.getElem_take]
    have := b2 i i1 (by omega)
    have := h3 i i1 (by omega)
    omega
  conv => lhs; rw [e]
  rw [rng_append, rng_append, r1, r2, r3]
  simp

/-- One of a node's kids, by how its pairs lie. -/
theorem SndL.kidAt {N : List Nd} {root : Bool} {lv : Int} {lo hi l p : Nat} {ps qs : Pairs} {g : List Nat} (h : SndL N root lv lo hi (l + 1) p ps qs g) (hl : l + 1 ≤ 7) (hN : N.length ≤ 511) (i : Nat) (hi' : i < ps.length) {q1 q2 q3 : Pairs} {g2 g3 : List Nat} (e : qs = q1 ++ q2 ++ q3)
    (s1 : Snd N l (valAt ps i) q2 g2) (s2 : 0 < q2.length) (s3 : keyAt q2 0 = keyAt ps i) (k3 : Kids (Snd N l) (ps.drop (i + 1)) q3 g3) :
    ∃ ps' g', g2 = valAt ps i :: g' ∧ SndL N false (l : Int) (keyAt ps i) (highOf ps i hi) l (valAt ps i) ps' q2 g' ∧ ps'.length ≤ 15 := by
  obtain ⟨ps', g', n1, n2, n3, n4, rfl⟩ := snd_iff.1 s1
  have hs : Srt (q1 ++ q2 ++ q3) := by rw [← e]; exact h.srt
  obtain ⟨t1, t2, t3, t4, t5, t6⟩ := srt_le hs
  have hh : ∀ q ∈ q2, q.1 ≤ highOf ps i hi := by
    intro q hq
    unfold highOf
    split
    · rename_i hlt
      obtain ⟨r1, r2⟩ := k3.pos (by rw [List.length_drop]; omega)
      rw [keyAt_drop] at r2
      obtain ⟨v, hv⟩ := keyAt_mem r1
      have := t2 q hq _ hv
      rw [r2] at this
      omega
    · exact h.high q (by rw [e]; simp [hq])
  obtain ⟨b1, b2⟩ := body_pos n4 n2
  refine ⟨ps', g', rfl, ⟨n1, ⟨body_good n4 t5 n2 n3 (by omega) hN, n2, rfl, ?_, ?_⟩, n4, t5, hh⟩, n3⟩
  · rw [← b2]; exact s3
  · have hm : ps'.length - 1 < ps'.length := by omega
    obtain ⟨v, hv⟩ := keyAt_mem hm
    obtain ⟨q, hq, e⟩ := body_key n4 _ hv
    have := hh q hq
    rw [e] at this
    exact this

/-- Where the kids of a key begin and end. -/
theorem rng_before {S : Nat → Pairs → List Nat → Prop} {ps qs qa qb : Pairs} {ga gb : List Nat} {low high : Nat} (hs : Srt qs) (h0 : 0 < ps.length) (hps : Srt ps) (e : qs = qa ++ qb) (ha : Kids S (ps.take (kidOf ps low)) qa ga) (hb : Kids S (ps.drop (kidOf ps low)) qb gb) : rng low high qa = [] := by
  obtain ⟨sd1, _⟩ := kid_sides hps low h0
  rcases Nat.eq_zero_or_pos (kidOf ps low) with e0 | e0
  · rw [e0, List.take_zero] at ha
    obtain ⟨rfl, _⟩ := ha
    rfl
  · have hlt := kidOf_lt ps low h0
    obtain ⟨r1, r2⟩ := hb.pos (by rw [List.length_drop]; omega)
    rw [keyAt_drop] at r2
    refine rng_below fun p hp => ?_
    rw [e] at hs
    obtain ⟨v, hv⟩ := keyAt_mem r1
    have := (List.pairwise_append.1 hs).2.2 p hp _ hv
    have := sd1 e0
    simp only [r2] at *
    omega
theorem rng_behind {S : Nat → Pairs → List Nat → Prop} {ps qs qa qb : Pairs} {ga gb : List Nat} {low high i : Nat} (hs : Srt qs) (e : qs = qa ++ qb) (hb : Kids S (ps.drop i) qb gb) (hk : i < ps.length → high < keyAt ps i) : rng low high qb = [] := by
  rcases Nat.lt_or_ge i ps.length with h | h
  · obtain ⟨r1, r2⟩ := hb.pos (by rw [List.length_drop]; omega)
    rw [keyAt_drop] at r2
    refine rng_above fun p hp => ?_
    rw [e] at hs
    have := srt_first (List.pairwise_append.1 hs).2.1 p hp
    have := hk h
    omega
  · have : ps.drop i = [] := List.drop_eq_nil_iff.2 h
    rw [this] at hb
    obtain ⟨rfl, _⟩ := hb
    rfl

end Go.Proofs.Ytjollbaohopmjaa
/- Package tree's lower. -/
set_option linter.unusedVariables false
namespace Go.Proofs.Ytjollbaohopmjaa
open Go.RowKit

/-- The level in a lead's box. -/
def lvAt (W : World) (B : Nat) : Nat := match W.cell? ⟨B, 2, none⟩ with
  | some (.int _ n) => n.toNat
  | _ => 0
theorem lvAt_box {W : World} {B q lo hi : Nat} {root : Bool} {l : Nat} (h : BoxD B q root (l : Int) lo hi W) : lvAt W B = l := by
  unfold lvAt
  rw [h.c2]
  simp

/-- What stands in lower's loop. -/
def LoI (N : List Nd) (w : World) (B P : Nat) (W : World) : Prop := ∃ (l lo hi q : Nat) (ps qs : Pairs) (g : List Nat), SndL N false (l : Int) lo hi l q ps qs g ∧ l ≤ 7 ∧ ps.length ≤ 15 ∧ hi < 18446744073709551616 ∧ lowM N l q = P ∧ BoxD B q false (l : Int) lo hi W ∧ KeptIn (· < w.heap.size) w W

theorem lo_far {N : List Nd} {l q : Nat} {ps : Pairs} (h : nodeOf N q = some (l, ps)) (hl : l = 0 ∨ 1 < ps.length) : lowM N l q = q := by
  cases l with
  | zero => rfl
  | succ l => unfold lowM; rw [h]; dsimp only; rw [if_pos (by omega)]
theorem lo_near {N : List Nd} {l q : Nat} {ps : Pairs} (h : nodeOf N q = some (l + 1, ps)) (hl : ¬ 1 < ps.length) : lowM N (l + 1) q = lowM N l (valAt ps 0) := by
  rw [lowM]; rw [h]; dsimp only; rw [if_neg hl]

theorem lo_next {N : List Nd} (hN : N.length ≤ 511) {w V4 : World} {B P l lo hi q : Nat} {ps qs : Pairs} {g : List Nat} (hS : SndL N false ((l + 1 : Nat) : Int) lo hi (l + 1) q ps qs g) (hl : l + 1 ≤ 7) (hh : hi < 18446744073709551616) (hf : Fits ps) (h1 : ¬ 1 < ps.length) (hP : lowM N (l + 1) q = P)
    (hb : BoxD B q false ((l + 1 : Nat) : Int) lo hi V4) (hk : KeptIn (· < w.heap.size) w V4) (hB : w.heap.size ≤ B) :
    LoI N w B P (((((V4.setCell ⟨B, 0, none⟩ (.int .i64 (valAt ps 0 : Int))).setCell ⟨B, 1, none⟩ (.bool false)).setCell ⟨B, 2, none⟩ (.int .i64 (l : Int))).setCell ⟨B, 3, none⟩ (.int .u64 (keyAt ps 0 : Int))).setCell ⟨B, 4, none⟩ (.int .u64 (highOf ps 0 hi : Int))) := by
  have h0 := (fit_good' hS.fit).2
  obtain ⟨ps', q1, q2, q3, g1, g', g3, _, _, hc, _, _, h15, _⟩ := hS.kid hl hN 0 h0
  exact ⟨l, _, _, _, ps', q2, g', hc, by omega, h15, highOf_lt ps 0 hi hf hh, by rw [← hP, lo_near hS.node h1], hb.set, hk.trans (leadSet.mono fun k h1 e => by rw [e] at h1; exact absurd h1 (Nat.not_lt.2 hB))⟩

/-- Behind the reading of a node: its box and the lead's. -/
theorem lo_frame {w W V : World} {B q lo hi g cg : Nat} {lv : Int} {ps : Pairs} (hb : BoxD B q false lv lo hi W) (hkW : KeptIn (· < w.heap.size) w W) (hps : IsPs V (some ⟨g, 0, none⟩) ps) (hkV : KeptIn (· < W.heap.size) W V) (LV : Int) (n : Nat) :
    ∃ V0 y, V.alloc (.cells #[.int .i64 LV, .slice (some ⟨g, 0, none⟩) n cg] 27) = V0 ∧ V.heap.size = y ∧ Hid (BoxD B q false lv lo hi V0 ∧ BoxL y LV (some ⟨g, 0, none⟩) n cg V0 ∧ IsPs V0 (some ⟨g, 0, none⟩) ps ∧ KeptIn (· < w.heap.size) w V0) := by
  have hkA : KeptIn (· < V.heap.size) V (V.alloc (.cells #[.int .i64 LV, .slice (some ⟨g, 0, none⟩) n cg] 27)) := (KeptIn.refl _ V).alloc (fun _ h => h) _
  have hkT := hkV.go hkA
  exact ⟨_, _, rfl, rfl, Lib.hid ⟨hb.kept hkT hb.lt, BoxL.new V _ _ _ _, hps.old hkA, hkW.go hkT⟩⟩

set_option maxHeartbeats 4000000 in
set_option maxRecDepth 100000 in
theorem trLower {N : List Nd} (hN : N.length ≤ 511) {w : World} {s room : Nat} {D : Nat → Prop} (h : IsSh w s room N D) {l lo hi p : Nat} {ps qs : Pairs} {g0 : List Nat} (hS : SndL N false (l : Int) lo hi l p ps qs g0) (hl7 : l ≤ 7) (h15 : ps.length ≤ 15) (hhi : hi < 18446744073709551616) :
    Calls Try.prog 41 #[pgV s, leadV p false (l : Int) lo hi] w fun e w' => e = .returned (.tuple #[.int .i64 (lowM N l p : Int), .int .i64 0]) ∧ KeptIn (· < w.heap.size) w w' := by
  obtain ⟨P, hP⟩ : ∃ P, lowM N l p = P := ⟨_, rfl⟩
  rw [hP]
  obtain ⟨W, hW⟩ : ∃ W, w.alloc (.cells #[.int .i64 (p : Int), .bool false, .int .i64 (l : Int), .int .u64 (lo : Int), .int .u64 (hi : Int)] 97) = W := ⟨_, rfl⟩
  obtain ⟨B, hB⟩ : ∃ B, w.heap.size = B := ⟨_, rfl⟩
  have hkW : KeptIn (· < w.heap.size) w W := by rw [← hW]; exact (KeptIn.refl _ w).alloc (fun _ h => h) _
  have hbd : BoxD B p false (l : Int) lo hi W := by rw [← hW, ← hB]; exact BoxD.new w p false (l : Int) lo hi
  have HI0 : Hid (LoI N w B P W) := Lib.hid ⟨l, lo, hi, p, ps, qs, g0, hS, hl7, h15, hhi, hP, hbd, hkW⟩
  have HS := Lib.hid (And.intro h (Nat.le_of_eq hB))
  unfold pgV leadV
  clear h hS hP hkW hbd h15 hhi
  go_enter Try.func41, Try.ntmps41
  go_wp2_with fail
  clear hW hB
  go_loopw [] (fun wr => ∃ (W : World), W = wr ∧ Hid (LoI N w B P W)) (fun wr => lvAt wr B)
  case atStart => exact ⟨_, rfl, HI0⟩
  case round =>
    obtain ⟨W, rfl, HJ⟩ := hrel
    clear HI0
    obtain ⟨l, lo, hi, q, ps, qs, g1, hS, hl7, h15, hhi, hP, hbd, hkW⟩ := HJ.out
    obtain ⟨ix, hix, hqi, hni⟩ := nodeOf_at hS.node
    have CL := trLeadRead (HS.out.1.old hkW) ix hix false (l : Int) lo hi (by rw [hni]; exact hS.fit)
    rw [hqi, hni] at CL
    obtain ⟨n, hn⟩ : ∃ n, ps.length = n := ⟨_, rfl⟩
    obtain ⟨LV, hLV⟩ : ∃ LV : Int, (l : Int) = LV := ⟨_, rfl⟩
    have HC := Lib.hid (Calls.mono CL (R' := fun e w' => ∃ g cg, e = .returned (.tuple #[.agg #[.int .i64 LV, .slice (some ⟨g, 0, none⟩) n cg], .int .i64 0]) ∧ IsPs w' (some ⟨g, 0, none⟩) ps ∧ KeptIn (· < W.heap.size) W w') fun e w' ⟨g, cg, h1, h2, _, h3, _⟩ => ⟨g, cg, by rw [← hn, ← hLV]; exact h1, h2, h3⟩)
    unfold pgV leadV at *
    have hlv := lvAt_box hbd
    have HLV := Lib.hid hlv
    rw [hLV] at HC
    have d0 := hbd.c0
    have d1 := hbd.c1
    have d2 := hbd.c2
    have d3 := hbd.c3
    have d4 := hbd.c4
    rw [hLV] at d2
    have HD := Lib.hid (And.intro hS (And.intro hl7 (And.intro h15 (And.intro hhi (And.intro hP (And.intro hbd (And.intro hkW (And.intro hn hLV))))))))
    have hpos : 0 < n := by rw [← hn]; exact (fit_good' hS.fit).2
    clear CL hS h15 hhi hP hbd hkW hn hLV hix hqi hni hlv HJ
    by_cases hfin : l = 0 ∨ 1 < n
    · have HE : Hid (q = P) := Lib.hid (by rw [← HD.out.2.2.2.2.1]; exact (lo_far HD.out.1.node (by rw [HD.out.2.2.2.2.2.2.2.1]; exact hfin)).symm)
      by_cases hz : l = 0
      · have z0 : (LV == 0) = true := by rw [← HD.out.2.2.2.2.2.2.2.2, hz]; rfl
        clear hfin hz hpos hl7
        go_wp2_with (go_at_call 35; refine HC.out.mono ?_; rintro e V ⟨g, cg, rfl, hps, hkV⟩; obtain ⟨V0, y, hV0, hy, HF⟩ := lo_frame (cg := cg) HD.out.2.2.2.2.2.1 HD.out.2.2.2.2.2.2.1 hps hkV LV n; have y0 := HF.out.2.1.c0; have y1 := HF.out.2.1.c1; have x0 := HF.out.1.c0; have x4 := HF.out.1.c4; clear hps hkV)
        go_ret2
        have hq := HE.out
        have hk9 := HF.out.2.2.2
        subst hq
        exact ⟨rfl, hk9⟩
      · have z0 : (LV == 0) = false := by rw [← HD.out.2.2.2.2.2.2.2.2, beq_eq_false_iff_ne]; omega
        have z1 : ¬ LV = 0 := by rw [← HD.out.2.2.2.2.2.2.2.2]; omega
        have z2 : (1 : Int) < (n : Int) := by omega
        have z3 : 1 < n := by omega
        clear hfin hz hpos hl7
        go_wp2_with (go_at_call 35; refine HC.out.mono ?_; rintro e V ⟨g, cg, rfl, hps, hkV⟩; obtain ⟨V0, y, hV0, hy, HF⟩ := lo_frame (cg := cg) HD.out.2.2.2.2.2.1 HD.out.2.2.2.2.2.2.1 hps hkV LV n; have y0 := HF.out.2.1.c0; have y1 := HF.out.2.1.c1; have x0 := HF.out.1.c0; have x4 := HF.out.1.c4; clear hps hkV)
        go_ret2
        have hq := HE.out
        have hk9 := HF.out.2.2.2
        subst hq
        exact ⟨rfl, hk9⟩
    · obtain ⟨l, rfl⟩ : ∃ k, l = k + 1 := ⟨l - 1, by omega⟩
      have z0 : (LV == 0) = false := by rw [← HD.out.2.2.2.2.2.2.2.2, beq_eq_false_iff_ne]; omega
      have z1 : ¬ LV = 0 := by rw [← HD.out.2.2.2.2.2.2.2.2]; omega
      have z2 : ¬ (1 : Int) < (n : Int) := by omega
      have z3 : ¬ 1 < n := by omega
      have hgood := (fit_good' HD.out.1.fit).1
      have hn := HD.out.2.2.2.2.2.2.2.1
      have CT : ∀ (g cg : Nat) (V0 : World), IsPs V0 (some ⟨g, 0, none⟩) ps → Calls Try.prog 38 #[.agg #[.int .i64 LV, .slice (some ⟨g, 0, none⟩) n cg], .int .i64 0, .int .u64 (hi : Int)] V0 fun e w' => e = .returned (.agg #[.int .i64 (valAt ps 0 : Int), .bool false, .int .i64 (l : Int), .int .u64 (keyAt ps 0 : Int), .int .u64 (highOf ps 0 hi : Int)]) ∧ KeptIn (· < V0.heap.size) V0 w' := by
        intro g cg V0 hp
        have CT := trToChild (l + 1) (some ⟨g, 0, none⟩) cg ps 0 hi V0 hp (good_rises hgood) (by rw [hn]; exact hpos) (by have := HD.out.2.2.1; omega) ⟨by omega, hl7⟩ (good_vals hgood (by omega) 0 (by rw [hn]; exact hpos)).2
        rw [show ((l + 1 : Nat) : Int) - 1 = (l : Int) by omega, HD.out.2.2.2.2.2.2.2.2, hn] at CT
        exact CT
      obtain ⟨vv, hvv⟩ : ∃ vv, valAt ps 0 = vv := ⟨_, rfl⟩
      obtain ⟨kk, hkk⟩ : ∃ kk, keyAt ps 0 = kk := ⟨_, rfl⟩
      obtain ⟨hh, hhh⟩ : ∃ hh, highOf ps 0 hi = hh := ⟨_, rfl⟩
      rw [hvv, hkk, hhh] at CT
      have HCT := Lib.hid CT
      have HX := Lib.hid (And.intro hvv (And.intro hkk (And.intro hhh (show ¬ 1 < ps.length by rw [hn]; exact z3))))
      clear CT hvv hkk hhh hgood hn hfin hpos
      go_wp2_with (go_at_call 35; refine HC.out.mono ?_; rintro e V ⟨g, cg, rfl, hps, hkV⟩; obtain ⟨V0, y, hV0, hy, HF⟩ := lo_frame (cg := cg) HD.out.2.2.2.2.2.1 HD.out.2.2.2.2.2.2.1 hps hkV LV n; have y0 := HF.out.2.1.c0; have y1 := HF.out.2.1.c1; have x0 := HF.out.1.c0; have x4 := HF.out.1.c4; clear hps hkV)
      have HCB := Lib.hid (HCT.out g cg V0 HF.out.2.2.1)
      clear HCT
      go_wp2_with (go_at_call 38; refine HCB.out.mono ?_)
      rintro e V4 ⟨rfl, hk4⟩
      have hbd4 := HF.out.1.kept hk4 HF.out.1.lt
      have e0 := hbd4.c0
      have e1 := hbd4.c1
      have e2 := hbd4.c2
      have e3 := hbd4.c3
      have e4 := hbd4.c4
      have f0 := hbd4.f0
      have f1 := hbd4.f1
      have f2 := hbd4.f2
      have f3 := hbd4.f3
      have f4 := hbd4.f4
      have HJ2 := lo_next hN HD.out.1 hl7 HD.out.2.2.2.1 HF.out.2.2.1.fits HX.out.2.2.2 HD.out.2.2.2.2.1 hbd4 (HF.out.2.2.2.go hk4) HS.out.2
      rw [HX.out.1, HX.out.2.1, HX.out.2.2.1] at HJ2
      have HJ3 := Lib.hid HJ2
      have HM : Hid (lvAt (((((V4.setCell ⟨B, 0, none⟩ (.int .i64 (vv : Int))).setCell ⟨B, 1, none⟩ (.bool false)).setCell ⟨B, 2, none⟩ (.int .i64 (l : Int))).setCell ⟨B, 3, none⟩ (.int .u64 (kk : Int))).setCell ⟨B, 4, none⟩ (.int .u64 (hh : Int))) B < lvAt W B) := Lib.hid (by
        rw [HLV.out, lvAt_box (hbd4.set (page' := vv) (root' := false) (lv' := (l : Int)) (low' := kk) (high' := hh))]
        omega)
      clear HJ2 hbd4 hk4 HD HF HX y0 y1 x0 x4 z0 z1 z2 z3 HLV
      go_wp2_with fail
      go_roundw
      case rel => exact ⟨_, rfl, HJ3⟩
      case measure => exact HM.out

end Go.Proofs.Ytjollbaohopmjaa
/- Package tree's addLowered. -/
set_option linter.unusedVariables false
namespace Go.Proofs.Ytjollbaohopmjaa
open Go.RowKit

set_option maxHeartbeats 4000000 in
set_option maxRecDepth 100000 in
theorem trLoweredPile {w : World} {s room : Nat} {N : List Nd} {D : Nat → Prop} (h : IsSh w s room N D) (lv cap f : Nat) (a : Option Addr) (l : Pairs) (hl : ListOk2 w s a cap l) (hl2 : l.length ≤ 1000) (hlv : lv ≤ 7) (hNc : N.length ≤ min room 511) (hf : l.length ≤ f) (hno : ¬ (0 < lv ∧ l.length = 1)) :
    Calls Try.prog 24 #[pgV s, leafV (lv : Int) a l.length cap] w (PageS w s room D (pileM (min room 511) f lv l N)) := by
  obtain ⟨LV, hLV⟩ : ∃ LV : Int, (lv : Int) = LV := ⟨_, rfl⟩
  obtain ⟨W, hW⟩ : ∃ W, w.alloc (.cells #[.int .i64 LV, .slice a l.length cap] 27) = W := ⟨_, rfl⟩
  have hkW : KeptIn (· < w.heap.size) w W := by rw [← hW]; exact (KeptIn.refl _ w).alloc (fun _ h => h) _
  have CP := Calls.mono (trPile (h.old hkW) lv cap f a l (hl.old hkW) hl2 (by omega) hNc hf) fun e w' h => h.from hkW
  obtain ⟨n, hn⟩ : ∃ n, l.length = n := ⟨_, rfl⟩
  obtain ⟨R, hR⟩ : ∃ R, pileM (min room 511) f lv l N = R := ⟨_, rfl⟩
  rw [hn, hLV] at CP ⊢
  rw [hn] at hno hW
  have hb : BoxL w.heap.size LV a n cap W := by rw [← hW]; exact BoxL.new w _ _ _ _
  have d0 := hb.c0
  have d1 := hb.c1
  rw [hR] at CP ⊢
  have HP := Lib.hid (Calls.mono CP (R' := fun e w' => ∃ p er : Nat, e = .returned (.tuple #[.int .i64 (p : Int), .int .i64 (er : Int)]) ∧ PageS w s room D R e w') fun e w' h1 => by
    have h2 := h1
    obtain ⟨⟨p, er, e1, e2⟩, e3⟩ := h1
    exact ⟨p, er, e1, h2⟩)
  unfold pgV leafV at *
  by_cases h0 : 0 < lv
  · have z0 : (0 : Int) < LV := by omega
    have z1 : ¬ n = 1 := fun e => hno ⟨h0, e⟩
    have z2 : ((n : Int) == 1) = false := by rw [beq_eq_false_iff_ne]; omega
    have z3 : ¬ (n : Int) = 1 := by omega
    clear hb hLV hno h hl hkW hn hR CP hf hl2 hNc
    go_enter Try.func24, Try.ntmps24
    go_wp2_with (go_at_call 27; refine HP.out.mono ?_; rintro e V ⟨p, er, rfl, hS⟩; have HS := Lib.hid hS; clear hS HP)
    go_ret2
    exact HS.out
  · have z0 : ¬ (0 : Int) < LV := by omega
    clear hb hLV
    clear hno h hl hkW hn hR CP hf hl2 hNc h0
    go_enter Try.func24, Try.ntmps24
    go_wp2_with (go_at_call 27; refine HP.out.mono ?_; rintro e V ⟨p, er, rfl, hS⟩; have HS := Lib.hid hS; clear hS HP)
    go_ret2
    exact HS.out

set_option maxHeartbeats 4000000 in
set_option maxRecDepth 100000 in
theorem trLoweredDown {N : List Nd} (hN : N.length ≤ 511) {w : World} {s room : Nat} {D : Nat → Prop} (h : IsSh w s room N D) (lv cap : Nat) (a : Option Addr) (l : Pairs) (hl : IsPs w a l) (hr : rises l = true) (h1 : l.length = 1) (hlv : lv + 1 ≤ 7) (hval : valAt l 0 ≤ 511) {ps qs : Pairs} {g : List Nat} (hS : SndL N false (lv : Int) (keyAt l 0) (highOf l 0 topH) lv (valAt l 0) ps qs g) (h15 : ps.length ≤ 15) :
    Calls Try.prog 24 #[pgV s, leafV ((lv + 1 : Nat) : Int) a 1 cap] w fun e w' => e = .returned (.tuple #[.int .i64 (lowM N lv (valAt l 0) : Int), .int .i64 0]) ∧ KeptIn (· < w.heap.size) w w' := by
  obtain ⟨LV, hLV⟩ : ∃ LV : Int, ((lv + 1 : Nat) : Int) = LV := ⟨_, rfl⟩
  obtain ⟨W, hW⟩ : ∃ W, w.alloc (.cells #[.int .i64 LV, .slice a 1 cap] 27) = W := ⟨_, rfl⟩
  have hkW : KeptIn (· < w.heap.size) w W := by rw [← hW]; exact (KeptIn.refl _ w).alloc (fun _ h => h) _
  have hb : BoxL w.heap.size LV a 1 cap W := by rw [← hW]; exact BoxL.new w _ _ _ _
  have d0 := hb.c0
  have d1 := hb.c1
  have z0 : (0 : Int) < LV := by omega
  have CT := trToChild (lv + 1) a cap l 0 topH W (hl.old hkW) hr (by omega) (by omega) ⟨by omega, hlv⟩ hval
  rw [show ((lv + 1 : Nat) : Int) - 1 = (lv : Int) by omega, h1, hLV, show ((topH : Nat) : Int) = 18446744073709551615 from rfl] at CT
  have HL : Hid (∀ V, KeptIn (· < W.heap.size) W V → Calls Try.prog 41 #[pgV s, leadV (valAt l 0) false (lv : Int) (keyAt l 0) (highOf l 0 topH)] V fun e w' => e = .returned (.tuple #[.int .i64 (lowM N lv (valAt l 0) : Int), .int .i64 0]) ∧ KeptIn (· < V.heap.size) V w') := Lib.hid fun V hk =>
    trLower hN (h.old (hkW.go hk)) hS (by omega) h15 (highOf_lt l 0 topH hl.fits (by decide))
  obtain ⟨P, hP⟩ : ∃ P, lowM N lv (valAt l 0) = P := ⟨_, rfl⟩
  obtain ⟨vv, hvv⟩ : ∃ vv, valAt l 0 = vv := ⟨_, rfl⟩
  obtain ⟨kk, hkk⟩ : ∃ kk, keyAt l 0 = kk := ⟨_, rfl⟩
  obtain ⟨hh, hhh⟩ : ∃ hh, highOf l 0 topH = hh := ⟨_, rfl⟩
  rw [hP] at HL ⊢
  rw [hvv, hkk, hhh] at CT HL
  rw [hLV]
  unfold pgV leadV leafV at *
  have HCT := Lib.hid CT
  have HK := Lib.hid hkW
  clear hb CT h hl hr h1 hlv hval hS h15 hkW hLV hP hvv hkk hhh
  go_enter Try.func24, Try.ntmps24
  go_wp2_with (first
    | (go_at_call 38; refine HCT.out.mono ?_; rintro e V ⟨rfl, hk⟩; have HC := Lib.hid (HL.out V hk); have HK2 := Lib.hid hk; clear hk)
    | (go_at_call 41; refine HC.out.mono ?_; rintro e V2 ⟨rfl, hk2⟩; have HK3 := Lib.hid hk2; clear hk2))
  go_ret2
  exact ⟨rfl, (HK.out.go HK2.out).go HK3.out⟩

end Go.Proofs.Ytjollbaohopmjaa
