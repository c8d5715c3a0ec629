import Derived.Test.YtkgjmejgkffbdaaGreatDoorM12
import Derived.Test.YtkgjmejgkffbdaaGreatDoorM5
import Derived.RangeFuncNested
import Derived.RangeFuncBound
import Derived.RangeFuncCalls
import Derived.RangeFuncLeaves
import Derived.RangeFuncBox
import Derived.Shelf.Abstract
import Derived.Shelf.RegionOpen
import Derived.OwnWalkIn
import Derived.TacticsInMore
import Derived.LoopNIn
import Derived.LoopIn
import Derived.Maps.AppendAt
/- slices.Values, AppendSeq, Collect, Sorted and Compact at integers: the numbers of a slice, rising, each once. -/
set_option linter.unusedVariables false
namespace Go.Proofs.YtkgjmejgkffbdaaGreatDoor
open Go.RowKit Go.Shelf
attribute [local go_sem] Oper.semAt_some

/-- The integers lie below n₀. -/
def IsLz (n₀ : Nat) (W : World) (a : Option Addr) (l : List Int) : Prop := 0 < l.length → ∃ b off, a = some ⟨b, off, none⟩ ∧ b < n₀ ∧ ∀ i, i < l.length → W.cell? ⟨b, off + i, none⟩ = some (.int .i64 (l.getD i 0))
theorem IsLz.below {n₀ : Nat} {U V : World} {a : Option Addr} {l : List Int} (h : IsLz n₀ U a l) (hb : Below n₀ U V) : IsLz n₀ V a l := fun hp => by
  obtain ⟨b, off, e, hlt, hc⟩ := h hp
  exact ⟨b, off, e, hlt, fun i hi => (hb.cell (p := ⟨b, off + i, none⟩) hlt).trans (hc i hi)⟩

def encI1 (x : Int) : Array Value := #[.int .i64 x]

set_option maxRecDepth 100000 in
set_option maxHeartbeats 2000000 in
theorem iValues1 (F : Fence) (n : Nat) (hf : F.fn 107) (hro : F.round = none) (hn : 1 ≤ n) (L Bs n₀ cap : Nat) (a : Option Addr) (l : List Int) (hlen : (l.length : Int) ≤ 9223372036854775807) (hBs₀ : Bs < n₀) (J Jx : List Int → World → Prop)
    (hY : ∀ pre x W, J pre W → pre.length < l.length → YieldAt F (n - 1) Tryz.prog L (encI1 x) W fun e W' =>
      (e = .returned (.bool true) ∧ J (pre ++ [x]) W' ∧ Below n₀ W W') ∨ (e = .returned (.bool false) ∧ Jx (pre ++ [x]) W'))
    (W : World) (hBs : W.cell? ⟨Bs, 0, none⟩ = some (.slice a l.length cap)) (hP : IsLz n₀ W a l) (h0 : J [] W) :
    CallsIn F n Tryz.prog 107 #[.func (.yield L) #[] #[], .pointer (some ⟨Bs, 0, none⟩)] W fun e W' => (∃ v, e = .returned v) ∧
      ((∃ ys, ys = l ∧ J ys W') ∨ (∃ pre, (∃ k, k < l.length ∧ pre = l.take (k + 1)) ∧ Jx pre W')) := by
  refine callsIn_of_wp Tryz.func107 rfl hf ?_ hro
  simp only [Tryz.ntmps107, List.size_toArray, List.length_cons, List.length_nil, Nat.reduceAdd, Nat.reduceSub, Array.replicate_succ, Array.replicate_zero, List.push_toArray, List.append_toArray, List.nil_append, List.cons_append]
  obtain ⟨m, hm⟩ : ∃ m, l.length = m := ⟨_, rfl⟩
  rw [hm] at hBs hlen
  have HM := Lib.hid hm
  have HP := Lib.hid hP
  have HY := Lib.hid hY
  clear hm hP hY
  gi_wp2
  gi_loopw [4, 7] (fun _ i wr => ∃ k : Nat, k ≤ m ∧ i = .int .i64 (k : Int) ∧ J (l.take k) wr ∧ Below n₀ W wr) (fun _ i _ => m - (intOf i).toNat)
  case atStart => exact ⟨0, Nat.zero_le _, rfl, h0, Below.refl _ _⟩
  case round =>
    obtain ⟨k, hk, rfl, hJs, hnx⟩ := hrel
    by_cases hlt : k < m
    · have i0 : (0 : Int) ≤ (k : Int) := by omega
      have i1 : (k : Int) < (m : Int) := by omega
      obtain ⟨b, off, rfl, hb, hc⟩ := (HP.out.below hnx) (by rw [HM.out]; omega)
      have e1 := hc k (by rw [HM.out]; omega)
      have hsn : l.take (k + 1) = l.take k ++ [l.getD k 0] := by
        have hkl : k < l.length := by rw [HM.out]; exact hlt
        rw [List.take_succ_eq_append_getElem hkl, List.getD_eq_getElem?_getD, List.getElem?_eq_getElem hkl]
        rfl
      obtain ⟨fn, tmps, assign, body, hy, hR⟩ := HY.out _ (l.getD k 0) wr hJs (by rw [List.length_take, HM.out]; omega)
      unfold encI1 at hy
      rw [← hsn] at hR
      obtain ⟨x, hx⟩ : ∃ x, l.getD k 0 = x := ⟨_, rfl⟩
      rw [hx] at e1 hy
      clear hc hx hsn
      gi_wp2
      refine hR.mono ?_
      rintro e W3 (⟨rfl, hJ3, hk3⟩ | ⟨rfl, hJx3⟩)
      · gi_wp2
        go_roundw
        case rel => exact ⟨k + 1, by omega, by first | (simp; done) | (go_num), hJ3, hnx.trans hk3⟩
        case measure => simp [intOf] <;> omega
      · gi_wp2
        refine bodyPost_ret (results_none rfl _ _ _) rfl ?_
        exact ⟨⟨_, rfl⟩, .inr ⟨_, ⟨k, by rw [HM.out]; exact hlt, rfl⟩, hJx3⟩⟩
    · obtain rfl : k = m := by omega
      have i1 : (k : Int) ≤ (k : Int) := Int.le_refl _
      gi_wp2
      go_end0
      exact ⟨⟨_, rfl⟩, .inl ⟨_, rfl, by rw [← HM.out, List.take_length] at hJs; exact hJs⟩⟩

set_option maxHeartbeats 1000000 in
theorem iValues (a : Option Addr) (len cap : Nat) (w : World) :
    Calls Tryz.prog 81 #[.slice a len cap] w fun e w' => e = .returned (.func (.func 107) #[] #[.pointer (some ⟨w.heap.size, 0, none⟩)]) ∧ w' = w.alloc (.cells #[.slice a len cap] 40) := by
  go_enter Tryz.func81, Tryz.ntmps81
  go_wp2
  go_ret
  exact ⟨rfl, rfl⟩

theorem iValues_stops (F : Fence) (n : Nat) (hf : F.fn 107) (hro : F.round = none) (hn : 1 ≤ n) (Bs n₀ cap : Nat) (a : Option Addr) (l : List Int) (hlen : (l.length : Int) ≤ 9223372036854775807) (w : World) (hBs : Bs < n₀) (hn₀ : n₀ ≤ w.heap.size)
    (hc : w.cell? ⟨Bs, 0, none⟩ = some (.slice a l.length cap)) (hP : IsLz n₀ w a l) :
    SeqStopsK F n Tryz.prog 107 #[.pointer (some ⟨Bs, 0, none⟩)] encI1 (Below n₀) (fun ys => ys = l) (fun pre => ∃ k, k < l.length ∧ pre = l.take (k + 1)) l.length w := fun L J Jx W hW _ _ hY h0 =>
  iValues1 F n hf hro hn L Bs n₀ cap a l hlen hBs J Jx hY W ((hW.cell (p := ⟨Bs, 0, none⟩) (Nat.lt_of_lt_of_le hBs hn₀)).trans hc) (hP.below (hW.mono hn₀)) h0

/-- What AppendSeq hands back. -/
def RowI (w : World) (l : List Int) (e : Ending) (w' : World) : Prop :=
  ∃ v, e = .returned v ∧ w'.ownsRow w.heap.size 3 1 v l.length (l.map encZ) ∧ (v = .slice none 0 0 ↔ l = []) ∧ Below w.heap.size w w'

/-- Between two rounds of AppendSeq: the box holds a row of what came. -/
def ApI (w : World) (pre : List Int) (W : World) : Prop :=
  (∃ v, W.heap[w.heap.size]? = some (.cells #[v] 40 (0, 0)) ∧ W.ownsRow w.heap.size 3 1 v pre.length (pre.map encZ) ∧ (v = .slice none 0 0 ↔ pre = [])) ∧ Below w.heap.size w W

theorem infoInt : (Tryz.prog.info? 3).map (fun i => (i.zero, i.size, i.bytes)) = some (some (.int .i64 0), 1, 8) := by kernel_rfl

theorem rowI_block {w w' : World} {B n s : Nat} {T : TypeId} {v : Value} {xs : List Value} (h : w.ownsRow B T s v n xs) (hb : ∀ g, v.ownBlock = some g → w'.heap[g]? = w.heap[g]?) : w'.ownsRow B T s v n xs := by
  refine ⟨h.1, ?_⟩
  rcases h.2 with h1 | ⟨g, cap, cur, rfl, hg, hb', r⟩
  · exact .inl h1
  · exact .inr ⟨g, cap, cur, rfl, hg, (hb g rfl).trans hb', r⟩
theorem rowI_cells {w : World} {B n s : Nat} {T : TypeId} {v : Value} {xs : List Value} (h : w.ownsRow B T s v n xs) (g : Nat) (e : v.ownBlock = some g) : ∃ cur, w.heap[g]? = some (.cells cur T (0, 0)) ∧ B ≤ g := by
  rcases h.2 with ⟨rfl, _⟩ | ⟨g', cap, cur, rfl, hB, hg, _⟩
  · cases e
  · simp only [Value.ownBlock, Option.some.injEq] at e
    subst e
    exact ⟨cur, hg, hB⟩

theorem apI_own (w : World) (B : Nat) (hB : w.heap.size ≤ B) : OwnFrom B (ApI w) := fun s X Y row hs hg hr => by
  obtain ⟨⟨v, h1, h2, h3⟩, hb⟩ := hs
  have key : ∀ (k : Nat) (o : Obj), X.heap[k]? = some o → o.isCells = true → Y.heap[k]? = X.heap[k]? := fun k o hk ho => hg.block k (Array.getElem?_eq_some_iff.1 hk).1 (fun e => by
    obtain ⟨_, o', ho', hc⟩ := hr k e.symm
    rw [hk] at ho'
    cases ho'
    rw [ho] at hc
    cases hc)
  refine ⟨⟨v, (key _ _ h1 rfl).trans h1, rowI_block h2 fun g e => ?_, h3⟩, hb.grown hg hb.size fun k e => Nat.le_trans hB (hr k e).1⟩
  obtain ⟨cur, hc, _⟩ := rowI_cells h2 g e
  exact key _ _ hc rfl

set_option maxRecDepth 100000 in
set_option maxHeartbeats 4000000 in
theorem iAppendSeq (F : Fence) (n : Nat) (hf : F.fn 119) (hf1 : F.fn 107) (hro : F.round = none) (hn : 3 ≤ n) (Bs cap : Nat) (a : Option Addr) (l : List Int) (hlen : l.length ≤ 1000000) (w : World) (hBs : Bs < w.heap.size)
    (hc : w.cell? ⟨Bs, 0, none⟩ = some (.slice a l.length cap)) (hP : IsLz w.heap.size w a l) :
    CallsIn F n Tryz.prog 119 #[.slice none 0 0, .func (.func 107) #[] #[.pointer (some ⟨Bs, 0, none⟩)]] w (RowI w l) := by
  obtain ⟨i0, hi, hz0, hz1, hz2⟩ := info_parts infoInt
  have h1 : 1 ≤ n := by omega
  refine callsIn_of_wp_marks Tryz.func119 rfl hf ?_ hro
  simp only [Tryz.ntmps119, List.size_toArray, List.length_cons, List.length_nil, Nat.reduceAdd, Nat.reduceSub, Array.replicate_succ, Array.replicate_zero, List.push_toArray, List.append_toArray, List.nil_append, List.cons_append]
  gi_wp2
  obtain ⟨W0, hW0⟩ : ∃ W0, w.alloc (.cells #[.slice none 0 0] 40) = W0 := ⟨_, rfl⟩
  have hb0 : Below w.heap.size w W0 := by rw [← hW0]; exact (Below.refl _ w).alloc (Nat.le_refl _) _
  have hbx : W0.heap[w.heap.size]? = some (.cells #[.slice none 0 0] 40 (0, 0)) := by rw [← hW0]; exact heap_alloc_new w _
  have hsz : W0.heap.size = w.heap.size + 1 := by rw [← hW0]; simp
  have hI0 : ApI w [] W0 := ⟨⟨_, hbx, ⟨rfl, .inl ⟨rfl, rfl⟩⟩, by simp⟩, hb0⟩
  have hstops := iValues_stops F (n - 1) hf1 hro (by omega) Bs w.heap.size cap a l (by omega) W0 hBs hb0.size ((hb0.cell (p := ⟨Bs, 0, none⟩) hBs).trans hc) (hP.below hb0)
  rw [hW0]
  refine wpIn_rangeFunc_ownH hro h1 (gf := 107) (lb := #[.pointer (some ⟨Bs, 0, none⟩)]) rfl hf1 (enters_of Tryz.func107 (by kernel_rfl) rfl)
    hstops belowK_t (belowK_b hb0.size) (Below.refl _ _) (fun _ => rfl)
    (ApI w) (fun _ _ _ => False) (apI_own w _ hb0.size) (fun c => fun _ _ _ _ h _ _ => h.elim) hI0
    (fun x a' _ => a' = { tmps := #[.slice none 0 0, .func (.func 107) #[] #[.pointer (some ⟨Bs, 0, none⟩)], .pointer (some ⟨w.heap.size, 0, none⟩), undef, .slice none 0 0, .int .i64 x, .func (.func 107) #[] #[.pointer (some ⟨Bs, 0, none⟩)], .int .i64 x, undef, undef, undef, undef, undef], defers := [] })
    (fun _ _ _ _ _ _ hs _ _ => hs)
    ?assign ?body ?done ?stop
  case assign =>
    rintro L pre x W K hI hK
    unfold encI1
    gi_wp2
    exact hK _ _ (KeepsFrom.refl _ _) (Below.refl _ _) hI rfl
  case body =>
    rintro L pre x a' W hl _ ⟨⟨v, hv, hrow, hnil⟩, hb⟩ rfl hlt
    have hc2 : W.cell? ⟨w.heap.size, 0, none⟩ = some v := by simp [World.cell?, hv]
    have hf2 : W.frozen? ⟨w.heap.size, 0, none⟩ = false := by simp [World.frozen?, hv]
    have hne : ∀ {k : Nat} {cs : Array Value} {T : TypeId} {fr : Nat × Nat}, W.heap[k]? = some (.cells cs T fr) → T ≠ 3 → some k ≠ v.ownBlock := fun hk hT e => by
      obtain ⟨cur, hcur, _⟩ := rowI_cells hrow _ e.symm
      rw [hcur] at hk
      simp only [Option.some.injEq, Obj.cells.injEq] at hk
      exact hT hk.2.1.symm
    have hBlt : w.heap.size < W.heap.size := (Array.getElem?_eq_some_iff.1 hv).1
    have hcell : ∀ (j : Nat) (o : Obj), v.ownBlock = some j → (W.alloc (.cells #[.int .i64 x] 3)).heap[j]? = some o → o.isCells = true := fun j o e ho => by
      obtain ⟨cur, hcur, _⟩ := rowI_cells hrow _ e
      rw [Lib.alloc_old _ _ _ (Array.getElem?_eq_some_iff.1 hcur).1, hcur] at ho
      cases ho
      rfl
    have hbase : ∀ g, v.ownBlock = some g → w.heap.size ≤ g := fun g e => by
      obtain ⟨_, _, h⟩ := rowI_cells hrow _ e
      exact h
    have q1 : pre.length + 1 ≤ maxLen := by unfold maxLen; omega
    have q2 : (pre.length + 1) * 8 ≤ 140737488355328 := by omega
    have q3 : w.heap.size ≤ (W.alloc (.cells #[.int .i64 x] 3)).heap.size := Nat.le_trans hb.size (by simp)
    have Q := Lib.hid (And.intro q1 (And.intro q2 q3))
    clear q1 q2 q3
    gi_wp2_with (gi_at_builtin; refine wpListIn_append_own _ rfl _ _ 40 rfl w.heap.size 3 i0 (.int .i64 0) 1 8 Tryz.underlying40 hi hz0 hz1 hz2 rfl (by decide) _ _ _ rfl (hrow.alloc _) ⟨W.heap.size, 0, none⟩ 1 1 [.int .i64 x] rfl rfl (cell_one_new _ _ _) (by simp [Value.oneCell']) Q.out.1 Q.out.2.1 Q.out.2.2 ?_)
    intro v' w3 hown' hg3 hnil3
    obtain ⟨g', cap', rfl⟩ : ∃ g' cap', v' = .slice (some ⟨g', 0, none⟩) (pre.length + 1) cap' := by
      rcases hown'.2 with ⟨_, h0⟩ | ⟨g', cap', cur, h', _⟩
      · exact absurd h0 (by omega)
      · exact ⟨g', cap', h'⟩
    have hv3 : w3.heap[w.heap.size]? = some (.cells #[v] 40 (0, 0)) := (hg3.block w.heap.size (by rw [World.size_alloc]; omega) (hne hv (by decide))).trans ((Lib.alloc_old _ _ _ hBlt).trans hv)
    have hc3 : w3.cell? ⟨w.heap.size, 0, none⟩ = some v := by simp [World.cell?, hv3]
    have hf3 : w3.frozen? ⟨w.heap.size, 0, none⟩ = false := by simp [World.frozen?, hv3]
    gi_wp2
    have hb3 : Below w.heap.size w w3 := (hb.alloc hb.size _).grown hg3 (by have := hb.size; simp; omega) (fun k e => hbase k e)
    have hb23 : Below w.heap.size W w3 := ((Below.refl _ W).alloc (Nat.le_of_lt hBlt) _).grown hg3 (by simp; omega) (fun k e => hbase k e)
    have hk3 : KeepsOthers W w3 := (KeepsOthers.alloc _ _).trans (KeepsOthers.of_grownBy hg3 hcell)
    have hv4 : (w3.setCell ⟨w.heap.size, 0, none⟩ (.slice (some ⟨g', 0, none⟩) (pre.length + 1) cap')).heap[w.heap.size]? = some (.cells #[.slice (some ⟨g', 0, none⟩) (pre.length + 1) cap'] 40 (0, 0)) := (heap_setCell_same w3 w.heap.size 0 _ _ (.slice (some ⟨g', 0, none⟩) (pre.length + 1) cap') hv3).trans rfl
    have hne' : ∀ g, (Value.slice (some ⟨g', 0, none⟩) (pre.length + 1) cap').ownBlock = some g → g ≠ w.heap.size := fun g e e2 => by
      obtain ⟨cur, hcur, _⟩ := rowI_cells hown' _ e
      rw [e2, hv3] at hcur
      simp only [Option.some.injEq, Obj.cells.injEq] at hcur
      exact absurd hcur.2.1 (by decide)
    refine ⟨(hk3.trans (KeepsOthers.setCell _ _ _)).from _, hb23.setCell (p := ⟨w.heap.size, 0, none⟩) (Nat.le_refl _) _, ⟨_, hv4, ?_, ?_⟩, hb3.setCell (p := ⟨w.heap.size, 0, none⟩) (Nat.le_refl _) _⟩
    · rw [List.length_append, List.map_append]
      exact rowI_block hown' fun g e => heap_setCell_other _ _ _ _ (hne' g e)
    · simp
  case done =>
    rintro D ys W hD rfl ⟨⟨v, hv, hrow, hnil⟩, hb⟩ hK
    have hc2 : W.cell? ⟨w.heap.size, 0, none⟩ = some v := by simp [World.cell?, hv]
    gi_wp2
    refine ⟨by simp, .inl ⟨_, _, rfl, run_takeDeferred hK, ?_⟩⟩
    refine ⟨_, results_tmp rfl _ _ _, ?_⟩
    unfold RowI
    refine ⟨v, rfl, rowI_block hrow fun g e => ?_, hnil, belowK_t hb (belowK_b hb0.size _ D _ _ hD hK rfl rfl)⟩
    obtain ⟨cur, hcur, _⟩ := rowI_cells hrow g e
    exact World.putObj_heap_other fun e2 => by
      rw [← e2, hcur] at hK
      cases hK
  case stop =>
    rintro D c pre W hD _ h hK
    exact h.elim

set_option maxHeartbeats 1000000 in
theorem iCollect (F : Fence) (n : Nat) (hf0 : F.fn 105) (hf : F.fn 119) (hf1 : F.fn 107) (hro : F.round = none) (hn : 4 ≤ n) (Bs cap : Nat) (a : Option Addr) (l : List Int) (hlen : l.length ≤ 1000000) (w : World) (hBs : Bs < w.heap.size)
    (hc : w.cell? ⟨Bs, 0, none⟩ = some (.slice a l.length cap)) (hP : IsLz w.heap.size w a l) :
    CallsIn F n Tryz.prog 105 #[.func (.func 107) #[] #[.pointer (some ⟨Bs, 0, none⟩)]] w (RowI w l) := by
  have C := Lib.hid (iAppendSeq F (n - 1) hf hf1 hro (by omega) Bs cap a l hlen w hBs hc hP)
  have h1 : 1 ≤ n := by omega
  clear hc hP hBs
  refine callsIn_of_wp Tryz.func105 rfl hf0 ?_ hro
  simp only [Tryz.ntmps105, List.size_toArray, List.length_cons, List.length_nil, Nat.reduceAdd, Nat.reduceSub, Array.replicate_succ, Array.replicate_zero, List.push_toArray, List.append_toArray, List.nil_append, List.cons_append]
  gi_wp2_with ((gi_at_call 119; refine C.out.mono ?_; rintro e w' hR; unfold RowI at hR; obtain ⟨v, rfl, q1, q2, q3⟩ := hR))
  go_ret
  unfold RowI
  exact ⟨v, rfl, q1, q2, q3⟩

/-- What Sorted hands back: a row of its own, what came, sorted. -/
def SortedI (w : World) (l : List Int) (e : Ending) (w' : World) : Prop :=
  ∃ v, e = .returned v ∧ w'.ownsRow w.heap.size 3 1 v l.length ((l.mergeSort (fun x y => decide (x ≤ y))).map encZ) ∧ Below w.heap.size w w'

set_option maxHeartbeats 2000000 in
theorem iSorted_in (F : Fence) (n : Nat) (hfs : F.fn 80) (hfo : F.fn 106) (hf0 : F.fn 105) (hf : F.fn 119) (hf1 : F.fn 107) (hro : F.round = none) (hn : 5 ≤ n) (hsort : AnyZI.SortsIn Tryz.prog Tryz.sortedI_ren F (n - 1)) (Bs cap : Nat) (a : Option Addr) (l : List Int) (hlen : l.length ≤ 1000000) (w : World) (hBs : Bs < w.heap.size)
    (hc : w.cell? ⟨Bs, 0, none⟩ = some (.slice a l.length cap)) (hP : IsLz w.heap.size w a l) :
    CallsIn F n Tryz.prog 80 #[.func (.func 107) #[] #[.pointer (some ⟨Bs, 0, none⟩)]] w (SortedI w l) := by
  have C := Lib.hid (iCollect F (n - 1) hf0 hf hf1 hro (by omega) Bs cap a l hlen w hBs hc hP)
  have HL := Lib.hid hlen
  have h1 : 1 ≤ n := by omega
  clear hc hP hBs hlen
  refine callsIn_of_wp Tryz.func80 rfl hfs ?_ hro
  simp only [Tryz.ntmps80, List.size_toArray, List.length_cons, List.length_nil, Nat.reduceAdd, Nat.reduceSub, Array.replicate_succ, Array.replicate_zero, List.push_toArray, List.append_toArray, List.nil_append, List.cons_append]
  gi_wp2_with ((gi_at_call 105; refine C.out.mono ?_))
  rintro e W hR
  unfold RowI at hR
  obtain ⟨v, rfl, hrow, hnil, hb⟩ := hR
  rcases hrow.2 with ⟨rfl, hz⟩ | ⟨gb, cap', cur, rfl, hbase, hgb, r1, r2, r3, r4⟩
  · have hss : l = [] := List.eq_nil_of_length_eq_zero hz
    subst hss
    have CS := hsort.2 none 0 W
    change CallsIn _ _ Tryz.prog 106 _ _ _ at CS
    gi_wp2_with (gi_at_call 106; refine CS.mono ?_; rintro e w' ⟨rfl, rfl⟩)
    go_ret
    unfold SortedI
    exact ⟨.slice none 0 0, rfl, by simpa using hrow, hb⟩
  · have hH : Go.Sort.Holds encZ W gb 0 l.toArray := holds_of_block_i hgb (by simpa using r4)
    have hgl : gb < W.heap.size := (Array.getElem?_eq_some_iff.1 hgb).1
    have hsz : l.length < 4611686018427387904 := by have := HL.out; omega
    have CS := hsort.1 gb 0 cap' l W hH hgl hsz
    change CallsIn _ _ Tryz.prog 106 _ _ _ at CS
    gi_wp2_with (gi_at_call 106; refine CS.mono ?_; rintro e w' ⟨rfl, nn, os, rfl⟩)
    go_ret
    unfold SortedI
    exact ⟨_, rfl, ownsRow_sorted_i (by simp) hbase hgb r1 r2 r3, hb.grown (grownBy_sorted_i _) hb.size (fun j hj => by cases hj; exact hbase)⟩

theorem iSorted (Bs cap : Nat) (a : Option Addr) (l : List Int) (hlen : l.length ≤ 1000000) (w : World) (hBs : Bs < w.heap.size)
    (hc : w.cell? ⟨Bs, 0, none⟩ = some (.slice a l.length cap)) (hP : IsLz w.heap.size w a l) :
    Calls Tryz.prog 80 #[.func (.func 107) #[] #[.pointer (some ⟨Bs, 0, none⟩)]] w (SortedI w l) :=
  callsIn_wide.1 (iSorted_in Fence.wide 6 trivial trivial trivial trivial trivial rfl (by omega) (sortsI _) Bs cap a l hlen w hBs hc hP)

/-! ### Compact -/
theorem compact_mem {x : Int} (zs : List Int) : x ∈ Lib.compact zs ↔ x ∈ zs := by
  constructor
  · intro h
    unfold Lib.compact Lib.compactUpTo at h
    obtain ⟨i, hi, rfl⟩ := List.mem_map.1 h
    have hi' : i < zs.length := List.mem_range.1 (List.mem_filter.1 hi).1
    simp [getElem!_pos, hi']
  · have key : ∀ m, m ≤ zs.length → ∀ i, i < m → zs.getD i 0 ∈ Lib.compactUpTo zs.toArray m := by
      intro m
      induction m with
      | zero => intro _ i hi; omega
      | succ m ih =>
        intro hm i hi
        rw [Lib.compactUpTo_succ, List.mem_append]
        rcases Nat.lt_or_ge i m with h | h
        · exact .inl (ih (by omega) i h)
        · obtain rfl : i = m := by omega
          by_cases hk : Lib.keeps zs.toArray i = true
          · right
            rw [if_pos hk]
            have hi2 : i < zs.length := by omega
            simp [getElem!_pos, hi2, List.getD_eq_getElem?_getD]
          · left
            rcases Nat.eq_zero_or_pos i with h0 | h0
            · subst h0
              exact absurd (Lib.keeps_lt_one _ 0 (by omega)) hk
            · have := ih (by omega) (i - 1) (by omega)
              have e : zs.getD i 0 = zs.getD (i - 1) 0 := by
                unfold Lib.keeps at hk
                have hi2 : i < zs.length := by omega
                have hi3 : i - 1 < zs.length := by omega
                simp [getElem!_pos, hi2, hi3] at hk
                simp [List.getD_eq_getElem?_getD, hi2, hi3]
                omega
              rw [e]
              exact this
    intro h
    obtain ⟨i, hi, rfl⟩ := List.getElem_of_mem h
    have := key zs.length (Nat.le_refl _) i hi
    rw [List.getD_eq_getElem?_getD, List.getElem?_eq_getElem hi] at this
    exact this

/-- What Compact hands back: a slice that reads as what was there, each once; none of what lies below B has changed. -/
def CompactI (B : Nat) (w : World) (zs : List Int) (e : Ending) (w' : World) : Prop :=
  ∃ (a : Option Addr) (cap : Nat) (r : List Int), e = .returned (.slice a r.length cap) ∧ (∀ x, x ∈ r ↔ x ∈ zs) ∧ r.length ≤ zs.length ∧
    (0 < r.length → ∃ g, a = some ⟨g, 0, none⟩ ∧ B ≤ g ∧ g < w'.heap.size ∧ ∀ i, i < r.length → w'.cell? ⟨g, 0 + i, none⟩ = some (.int .i64 (r.getD i 0))) ∧ KeptIn (· < B) w w'

theorem iCompact (B : Nat) (v : Value) (zs : List Int) (w : World) (hz : zs.length ≤ 1000000) (hrow : w.ownsRow B 3 1 v zs.length (zs.map encZ)) :
    ∃ a n cap, v = .slice a n cap ∧ Calls Tryz.prog 79 #[.slice a n cap] w (CompactI B w zs) := by
  rcases hrow.2 with ⟨rfl, h0⟩ | ⟨g, cap, cur, rfl, hB, hg, r1, r2, r3, r4⟩
  · refine ⟨none, 0, 0, rfl, (Tryz.slices_Compact_int_empty none 0 w).mono ?_⟩
    rintro e w' ⟨rfl, rfl⟩
    have : zs = [] := List.eq_nil_of_length_eq_zero h0
    subst this
    exact ⟨none, 0, [], rfl, fun x => Iff.rfl, Nat.le_refl _, fun h => absurd h (Nat.lt_irrefl 0), .refl _ _⟩
  · have hH : Go.Sort.Holds encZ w g 0 zs.toArray := holds_of_block_i hg (by simpa using r4)
    refine ⟨some ⟨g, 0, none⟩, zs.length, cap, rfl, (Tryz.slices_Compact_int g 0 cap zs w hH (by omega) r1).mono ?_⟩
    rintro e w' ⟨rfl, q, rfl⟩
    have hl : (Lib.compact zs).length ≤ zs.length := by
      unfold Lib.compact Lib.compactUpTo
      rw [List.length_map]
      refine Nat.le_trans (List.length_filter_le _ _) ?_
      rw [List.length_range]
      exact Nat.le_refl _
    have hsz : (Lib.compact zs ++ List.replicate (zs.length - (Lib.compact zs).length) 0).toArray.size = zs.toArray.size := by simp; omega
    have hH' := Go.Sort.holds_putRow encZ (Sort.ahead w q) g 0 zs.toArray _ hH hsz
    have hgl : g < w.heap.size := (Array.getElem?_eq_some_iff.1 hg).1
    refine ⟨_, cap, Lib.compact zs, rfl, fun x => compact_mem zs, hl, fun hp => ⟨g, rfl, hB, ?_, fun i hi => ?_⟩, ?_⟩
    · show g < (Go.Sort.putRow encZ (Sort.ahead w q) g 0 _).heap.size
      rw [Go.Sort.size_putRow]
      exact hgl
    · have h1 := (hH' i (by rw [hsz]; simp; omega)).1
      have hi2 : i < (Lib.compact zs ++ List.replicate (zs.length - (Lib.compact zs).length) 0).length := by simp; omega
      refine h1.trans ?_
      rw [getElem!_pos _ i (by simpa using hi2)]
      simp [List.getD_eq_getElem?_getD, hi, List.getElem_append_left, encZ]
    · refine ⟨rfl, rfl, rfl, by show _ ≤ (Go.Sort.putRow encZ (Sort.ahead w q) g 0 _).heap.size; rw [Go.Sort.size_putRow]; exact Nat.le_refl _, fun k hk => ?_⟩
      have hne : g ≠ k := fun e => by omega
      show (Go.Sort.putRow encZ (Sort.ahead w q) g 0 _).heap[k]? = _
      simp [Go.Sort.putRow, Go.Sort.mapBlock, Sort.ahead, Array.getElem?_modify, hne]

end Go.Proofs.YtkgjmejgkffbdaaGreatDoor
