import Derived.Test.YtkgjmejgkffbdaaGreatDoorJ12
import Derived.Test.YtkgjmejgkffbdaaGreatDoorJ5
import Derived.RangeFuncNested
import Derived.RangeFuncBound
import Derived.RangeFuncCalls
import Derived.RangeFuncLeaves
import Derived.RangeFuncBox
import Derived.Shelf.Abstract
import Derived.Shelf.RegionOpen
import Derived.OwnWalkIn
import Derived.TacticsInMore
import Derived.LoopNIn
import Derived.LoopIn
import Derived.Maps.AppendAt
import Derived.Test.YtkgjmejgkffbdaaGreatDoorJ9
/- slices.Values, AppendSeq, Collect, Sorted and Compact at integers: the numbers of a slice, rising, each once. -/
set_option linter.unusedVariables false
namespace Go.Proofs.YtkgjmejgkffbdaaGreatDoor
open Go.RowKit Go.Shelf
attribute [local go_sem] Oper.semAt_some

/-- The integers lie below n₀. -/
def IsLz (n₀ : Nat) (W : World) (a : Option Addr) (l : List Int) : Prop := 0 < l.length → ∃ b off, a = some ⟨b, off, none⟩ ∧ b < n₀ ∧ ∀ i, i < l.length → W.cell? ⟨b, off + i, none⟩ = some (.int .i64 (l.getD i 0))
theorem IsLz.below {n₀ : Nat} {U V : World} {a : Option Addr} {l : List Int} (h : IsLz n₀ U a l) (hb : Below n₀ U V) : IsLz n₀ V a l := fun hp => by
  obtain ⟨b, off, e, hlt, hc⟩ := h hp
  exact ⟨b, off, e, hlt, fun i hi => (hb.cell (p := ⟨b, off + i, none⟩) hlt).trans (hc i hi)⟩

def encI1 (x : Int) : Array Value := #[.int .i64 x]

set_option maxRecDepth 100000 in
set_option maxHeartbeats 2000000 in
theorem iValues1 (F : Fence) (n : Nat) (hf : F.fn 107) (hro : F.round = none) (hn : 1 ≤ n) (L Bs n₀ cap : Nat) (a : Option Addr) (l : List Int) (hlen : (l.length : Int) ≤ 9223372036854775807) (hBs₀ : Bs < n₀) (J Jx : List Int → World → Prop)
    (hY : ∀ pre x W, J pre W → pre.length < l.length → YieldAt F (n - 1) Tryz.prog L (encI1 x) W fun e W' =>
      (e = .returned (.bool true) ∧ J (pre ++ [x]) W' ∧ Below n₀ W W') ∨ (e = .returned (.bool false) ∧ Jx (pre ++ [x]) W'))
    (W : World) (hBs : W.cell? ⟨Bs, 0, none⟩ = some (.slice a l.length cap)) (hP : IsLz n₀ W a l) (h0 : J [] W) :
    CallsIn F n Tryz.prog 107 #[.func (.yield L) #[] #[], .pointer (some ⟨Bs, 0, none⟩)] W fun e W' => (∃ v, e = .returned v) ∧
      ((∃ ys, ys = l ∧ J ys W') ∨ (∃ pre, (∃ k, k < l.length ∧ pre = l.take (k + 1)) ∧ Jx pre W')) := by
  refine callsIn_of_wp Tryz.func107 rfl hf ?_ hro
  simp only [Tryz.ntmps107, List.size_toArray, List.length_cons, List.length_nil, Nat.reduceAdd, Nat.reduceSub, Array.replicate_succ, Array.replicate_zero, List.push_toArray, List.append_toArray, List.nil_append, List.cons_append]
  obtain ⟨m, hm⟩ : ∃ m, l.length = m := ⟨_, rfl⟩
  rw [hm] at hBs hlen
  have HM := Lib.hid hm
  have HP := Lib.hid hP
  have HY := Lib.hid hY
  clear hm hP hY
  gi_wp2
  gi_loopw [4, 7] (fun _ i wr => ∃ k : Nat, k ≤ m ∧ i = .int .i64 (k : Int) ∧ J (l.take k) wr ∧ Below n₀ W wr) (fun _ i _ => m - (intOf i).toNat)
  case atStart => exact ⟨0, Nat.zero_le _, rfl, h0, Below.refl _ _⟩
  case round =>
    obtain ⟨k, hk, rfl, hJs, hnx⟩ := hrel
    by_cases hlt : k < m
    · have i0 : (0 : Int) ≤ (k : Int) := by omega
      have i1 : (k : Int) < (m : Int) := by omega
      obtain ⟨b, off, rfl, hb, hc⟩ := (HP.out.below hnx) (by rw [HM.out]; omega)
      have e1 := hc k (by rw [HM.out]; omega)
      have hsn : l.take (k + 1) = l.take k ++ [l.getD k 0] := by
        have hkl : k < l.length := by rw [HM.out]; exact hlt
        rw [List.take_succ_eq_append_getElem hkl, List.getD_eq_getElem?_getD, List.getElem?_eq_getElem hkl]
        rfl
      obtain ⟨fn, tmps, assign, body, hy, hR⟩ := HY.out _ (l.getD k 0) wr hJs (by rw [List.length_take, HM.out]; omega)
      unfold encI1 at hy
      rw [← hsn] at hR
      obtain ⟨x, hx⟩ : ∃ x, l.getD k 0 = x := ⟨_, rfl⟩
      rw [hx] at e1 hy
      clear hc hx hsn
      gi_wp2
      refine hR.mono ?_
      rintro e W3 (⟨rfl, hJ3, hk3⟩ | ⟨rfl, hJx3⟩)
      · gi_wp2
        go_roundw
        case rel => exact ⟨k + 1, by omega, by first | (simp; done) | (go_num), hJ3, hnx.trans hk3⟩
        case measure => simp [intOf] <;> omega
      · gi_wp2
        refine bodyPost_ret (results_none rfl _ _ _) rfl ?_
        exact ⟨⟨_, rfl⟩, .inr ⟨_, ⟨k, by rw [HM.out]; exact hlt, rfl⟩, hJx3⟩⟩
    · obtain rfl : k = m := by omega
      have i1 : (k : Int) ≤ (k : Int) := Int.le_refl _
      gi_wp2
      go_end0
      exact ⟨⟨_, rfl⟩, .inl ⟨_, rfl, by rw [← HM.out, List.take_length] at hJs; exact hJs⟩⟩

set_option maxHeartbeats 1000000 in
theorem iValues (a : Option Addr) (len cap : Nat) (w : World) :
    Calls Tryz.prog 81 #[.slice a len cap] w fun e w' => e = .returned (.func (.func 107) #[] #[.pointer (some ⟨w.heap.size, 0, none⟩)]) ∧ w' = w.alloc (.cells #[.slice a len cap] 40) := by
  go_enter Tryz.func81, Tryz.ntmps81
  go_wp2
  go_ret
  exact ⟨rfl, rfl⟩

theorem iValues_stops (F : Fence) (n : Nat) (hf : F.fn 107) (hro : F.round = none) (hn : 1 ≤ n) (Bs n₀ cap : Nat) (a : Option Addr) (l : List Int) (hlen : (l.length : Int) ≤ 9223372036854775807) (w : World) (hBs : Bs < n₀) (hn₀ : n₀ ≤ w.heap.size)
    (hc : w.cell? ⟨Bs, 0, none⟩ = some (.slice a l.length cap)) (hP : IsLz n₀ w a l) :
    SeqStopsK F n Tryz.prog 107 #[.pointer (some ⟨Bs, 0, none⟩)] encI1 (Below n₀) (fun ys => ys = l) (fun pre => ∃ k, k < l.length ∧ pre = l.take (k + 1)) l.length w := fun L J Jx W hW _ _ hY h0 =>
  iValues1 F n hf hro hn L Bs n₀ cap a l hlen hBs J Jx hY W ((hW.cell (p := ⟨Bs, 0, none⟩) (Nat.lt_of_lt_of_le hBs hn₀)).trans hc) (hP.below (hW.mono hn₀)) h0

/-- What AppendSeq hands back. -/
def RowI (w : World) (l : List Int) (e : Ending) (w' : World) : Prop :=
  ∃ v, e = .returned v ∧ w'.ownsRow w.heap.size 3 1 v l.length (l.map encZ) ∧ (v = .slice none 0 0 ↔ l = []) ∧ Below w.heap.size w w'

/-- Between two rounds of AppendSeq: the box holds a row of what came. -/
def ApI (w : World) (pre : List Int) (W : World) : Prop :=
  (∃ v, W.heap[w.heap.size]? = some (.cells #[v] 40 (0, 0)) ∧ W.ownsRow w.heap.size 3 1 v pre.length (pre.map encZ) ∧ (v = .slice none 0 0 ↔ pre = [])) ∧ Below w.heap.size w W

theorem infoInt : (Tryz.prog.info? 3).map (fun i => (i.zero, i.size, i.bytes)) = some (some (.int .i64 0), 1, 8) := by kernel_rfl

theorem rowI_block {w w' : World} {B n s : Nat} {T : TypeId} {v : Value} {xs : List Value} (h : w.ownsRow B T s v n xs) (hb : ∀ g, v.ownBlock = some g → w'.heap[g]? = w.heap[g]?) : w'.ownsRow B T s v n xs := by
  refine ⟨h.1, ?_⟩
  rcases h.2 with h1 | ⟨g, cap, cur, rfl, hg, hb', r⟩
  · exact .inl h1
  · exact .inr ⟨g, cap, cur, rfl, hg, (hb g rfl).trans hb', r⟩
theorem rowI_cells {w : World} {B n s : Nat} {T : TypeId} {v : Value} {xs : List Value} (h : w.ownsRow B T s v n xs) (g : Nat) (e : v.ownBlock = some g) : ∃ cur, w.heap[g]? = some (.cells cur T (0, 0)) ∧ B ≤ g := by
  rcases h.2 with ⟨rfl, _⟩ | ⟨g', cap, cur, rfl, hB, hg, _⟩
  · cases e
  · simp only [Value.ownBlock, Option.some.injEq] at e
    subst e
    exact ⟨cur, hg, hB⟩

theorem apI_own (w : World) (B : Nat) (hB : w.heap.size ≤ B) : OwnFrom B (ApI w) := fun s X Y row hs hg hr => by
  obtain ⟨⟨v, h1, h2, h3⟩, hb⟩ := hs
  have key : ∀ (k : Nat) (o : Obj), X.heap[k]? = some o → o.isCells = true → Y.heap[k]? = X.heap[k]? := fun k o hk ho => hg.block k (Array.getElem?_eq_some_iff.1 hk).1 (fun e => by
    obtain ⟨_, o', ho', hc⟩ := hr k e.symm
    rw [hk] at ho'
    cases ho'
    rw [ho] at hc
    cases hc)
  refine ⟨⟨v, (key _ _ h1 rfl).trans h1, rowI_block h2 fun g e => ?_, h3⟩, hb.grown hg hb.size fun k e => Nat.le_trans hB (hr k e).1⟩
  obtain ⟨cur, hc, _⟩ := rowI_cells h2 g e
  exact key _ _ hc rfl

set_option maxRecDepth 100000 in
set_option maxHeartbeats 4000000 in
theorem iAppendSeq (F : Fence) (n : Nat) (hf : F.fn 119) (hf1 : F.fn 107) (hro : F.round = none) (hn : 3 ≤ n) (Bs cap : Nat) (a : Option Addr) (l : List Int) (hlen : l.length ≤ 1000000) (w : World) (hBs : Bs < w.heap.size)
    (hc : w.cell? ⟨Bs, 0, none⟩ = some (.slice a l.length cap)) (hP : IsLz w.heap.size w a l) :
    CallsIn F n Tryz.prog 119 #[.slice none 0 0, .func (.func 107) #[] #[.pointer (some ⟨Bs, 0, none⟩)]] w (RowI w l) := by
  obtain ⟨i0, hi, hz0, hz1, hz2⟩ := info_parts infoInt
  have h1 : 1 ≤ n := by omega
  refine callsIn_of_wp_marks Tryz.func119 rfl hf ?_ hro
  simp only [Tryz.ntmps119, List.size_toArray, List.length_cons, List.length_nil, Nat.reduceAdd, Nat.reduceSub, Array.replicate_succ, Array.replicate_zero, List.push_toArray, List.append_toArray, List.nil_append, List.cons_append]
  gi_wp2
  obtain ⟨W0, hW0⟩ : ∃ W0, w.alloc (.cells #[.slice none 0 0] 40) = W0 := ⟨_, rfl⟩
  have hb0 : Below w.heap.size w W0 := by rw [← hW0]; exact (Below.refl _ w).alloc (Nat.le_refl _) _
  have hbx : W0.heap[w.heap.size]? = some (.cells #[.slice none 0 0] 40 (0, 0)) := by rw [← hW0]; exact heap_alloc_new w _
  have hsz : W0.heap.size = w.heap.size + 1 := by rw [← hW0]; simp
  have hI0 : ApI w [] W0 := ⟨⟨_, hbx, ⟨rfl, .inl ⟨rfl, rfl⟩⟩, by simp⟩, hb0⟩
  have hstops := iValues_stops F (n - 1) hf1 hro (by omega) Bs w.heap.size cap a l (by omega) W0 hBs hb0.size ((hb0.cell (p := ⟨Bs, 0, none⟩) hBs).trans hc) (hP.below hb0)
  rw [hW0]
  refine wpIn_rangeFunc_ownH hro h1 (gf := 107) (lb := #[.pointer (some ⟨Bs, 0, none⟩)]) rfl hf1 (enters_of Tryz.func107 (by kernel_rfl) rfl)
    hstops belowK_t (belowK_b hb0.size) (Below.refl _ _) (fun _ => rfl)
    (ApI w) (fun _ _ _ => False) (apI_own w _ hb0.size) (fun c => fun _ _ _ _ h _ _ => h.elim) hI0
    (fun x a' _ => a' = { tmps := #[.slice none 0 0, .func (.func 107) #[] #[.pointer (some ⟨Bs, 0, none⟩)], .pointer (some ⟨w.heap.size, 0, none⟩), undef, .slice none 0 0, .int .i64 x, .func (.func 107) #[] #[.pointer (some ⟨Bs, 0, none⟩)], .int .i64 x, undef, undef, undef, undef, undef], defers := [] })
    (fun _ _ _ _ _ _ hs _ _ => hs)
    ?assign ?body ?done ?stop
  case assign =>
    rintro L pre x W K hI hK
    unfold encI1
    gi_wp2
    exact hK _ _ (KeepsFrom.refl _ _) (Below.refl _ _) hI rfl
  case body =>
    rintro L pre x a' W hl _ ⟨⟨v, hv, hrow, hnil⟩, hb⟩ rfl hlt
    have hc2 : W.cell? ⟨w.heap.size, 0, none⟩ = some v := by simp [World.cell?, hv]
    have hf2 : W.frozen? ⟨w.heap.size, 0, none⟩ = false := by simp [World.frozen?, hv]
    have hne : ∀ {k : Nat} {cs : Array Value} {T : TypeId} {fr : Nat × Nat}, W.heap[k]? = some (.cells cs T fr) → T ≠ 3 → some k ≠ v.ownBlock := fun hk hT e => by
      obtain ⟨cur, hcur, _⟩ := rowI_cells hrow _ e.symm
      rw [hcur] at hk
      simp only [Option.some.injEq, Obj.cells.injEq] at hk
      exact hT hk.2.1.symm
    have hBlt : w.heap.size < W.heap.size := (Array.getElem?_eq_some_iff.1 hv).1
    have hcell : ∀ (j : Nat) (o : Obj), v.ownBlock = some j → (W.alloc (.cells #[.int .i64 x] 3)).heap[j]? = some o → o.isCells = true := fun j o e ho => by
      obtain ⟨cur, hcur, _⟩ := rowI_cells hrow _ e
      rw [Lib.alloc_old _ _ _ (Array.getElem?_eq_some_iff.1 hcur).1, hcur] at ho
      cases ho
      rfl
    have hbase : ∀ g, v.ownBlock = some g → w.heap.size ≤ g := fun g e => by
      obtain ⟨_, _, h⟩ := rowI_cells hrow _ e
      exact h
    have q1 : pre.length + 1 ≤ maxLen := by unfold maxLen; omega
    have q2 : (pre.length + 1) * 8 ≤ 140737488355328 := by omega
    have q3 : w.heap.size ≤ (W.alloc (.cells #[.int .i64 x] 3)).heap.size := Nat.le_trans hb.size (by simp)
    have Q := Lib.hid (And.intro q1 (And.intro q2 q3))
    clear q1 q2 q3
    gi_wp2_with (gi_at_builtin; refine wpListIn_append_own _ rfl _ _ 40 rfl w.heap.size 3 i0 (.int .i64 0) 1 8 Tryz.underlying40 hi hz0 hz1 hz2 rfl (by decide) _ _ _ rfl (hrow.alloc _) ⟨W.heap.size, 0, none⟩ 1 1 [.int .i64 x] rfl rfl (cell_one_new _ _ _) (by simp [Value.oneCell']) Q.out.1 Q.out.2.1 Q.out.2.2 ?_)
    intro v' w3 hown' hg3 hnil3
    obtain ⟨g', cap', rfl⟩ : ∃ g' cap', v' = .slice (some ⟨g', 0, none⟩) (pre.length + 1) cap' := by
      rcases hown'.2 with ⟨_, h0⟩ | ⟨g', cap', cur, h', _⟩
      · exact absurd h0 (by omega)
      · exact ⟨g', cap', h'⟩
    have hv3 : w3.heap[w.heap.size]? = some (.cells #[v] 40 (0, 0)) := (hg3.block w.heap.size (by rw [World.size_alloc]; omega) (hne hv (by decide))).trans ((Lib.alloc_old _ _ _ hBlt).trans hv)
    have hc3 : w3.cell? ⟨w.heap.size, 0, none⟩ = some v := by simp [World.cell?, hv3]
    have hf3 : w3.frozen? ⟨w.heap.size, 0, none⟩ = false := by simp [World.frozen?, hv3]
    gi_wp2
    have hb3 : Below w.heap.size w w3 := (hb.alloc hb.size _).grown hg3 (by have := hb.size; simp; omega) (fun k e => hbase k e)
    have hb23 : Below w.heap.size W w3 := ((Below.refl _ W).alloc (Nat.le_of_lt hBlt) _).grown hg3 (by simp; omega) (fun k e => hbase k e)
    have hk3 : KeepsOthers W w3 := (KeepsOthers.alloc _ _).trans (KeepsOthers.of_grownBy hg3 hcell)
    have hv4 : (w3.setCell ⟨w.heap.size, 0, none⟩ (.slice (some ⟨g', 0, none⟩) (pre.length + 1) cap')).heap[w.heap.size]? = some (.cells #[.slice (some ⟨g', 0, none⟩) (pre.length + 1) cap'] 40 (0, 0)) := (heap_setCell_same w3 w.heap.size 0 _ _ (.slice (some ⟨g', 0, none⟩) (pre.length + 1) cap') hv3).trans rfl
    have hne' : ∀ g, (Value.slice (some ⟨g', 0, none⟩) (pre.length + 1) cap').ownBlock = some g → g ≠ w.heap.size := fun g e e2 => by
      obtain ⟨cur, hcur, _⟩ := rowI_cells hown' _ e
      rw [e2, hv3] at hcur
      simp only [Option.some.injEq, Obj.cells.injEq] at hcur
      exact absurd hcur.2.1 (by decide)
    refine ⟨(hk3.trans (KeepsOthers.setCell _ _ _)).from _, hb23.setCell (p := ⟨w.heap.size, 0, none⟩) (Nat.le_refl _) _, ⟨_, hv4, ?_, ?_⟩, hb3.setCell (p := ⟨w.heap.size, 0, none⟩) (Nat.le_refl _) _⟩
    · rw [List.length_append, List.map_append]
      exact rowI_block hown' fun g e => heap_setCell_other _ _ _ _ (hne' g e)
    · simp
  case done =>
    rintro D ys W hD rfl ⟨⟨v, hv, hrow, hnil⟩, hb⟩ hK
    have hc2 : W.cell? ⟨w.heap.size, 0, none⟩ = some v := by simp [World.cell?, hv]
    gi_wp2
    refine ⟨by simp, .inl ⟨_, _, rfl, run_takeDeferred hK, ?_⟩⟩
    refine ⟨_, results_tmp rfl _ _ _, ?_⟩
    unfold RowI
    refine ⟨v, rfl, rowI_block hrow fun g e => ?_, hnil, belowK_t hb (belowK_b hb0.size _ D _ _ hD hK rfl rfl)⟩
    obtain ⟨cur, hcur, _⟩ := rowI_cells hrow g e
    exact World.putObj_heap_other fun e2 => by
      rw [← e2, hcur] at hK
      cases hK
  case stop =>
    rintro D c pre W hD _ h hK
    exact h.elim

set_option maxHeartbeats 1000000 in
theorem iCollect (F : Fence) (n : Nat) (hf0 : F.fn 105) (hf : F.fn 119) (hf1 : F.fn 107) (hro : F.round = none) (hn : 4 ≤ n) (Bs cap : Nat) (a : Option Addr) (l : List Int) (hlen : l.length ≤ 1000000) (w : World) (hBs : Bs < w.heap.size)
    (hc : w.cell? ⟨Bs, 0, none⟩ = some (.slice a l.length cap)) (hP : IsLz w.heap.size w a l) :
    CallsIn F n Tryz.prog 105 #[.func (.func 107) #[] #[.pointer (some ⟨Bs, 0, none⟩)]] w (RowI w l) := by
  have C := Lib.hid (iAppendSeq F (n - 1) hf hf1 hro (by omega) Bs cap a l hlen w hBs hc hP)
  have h1 : 1 ≤ n := by omega
  clear hc hP hBs
  refine callsIn_of_wp Tryz.func105 rfl hf0 ?_ hro
  simp only [Tryz.ntmps105, List.size_toArray, List.length_cons, List.length_nil, Nat.reduceAdd, Nat.reduceSub, Array.replicate_succ, Array.replicate_zero, List.push_toArray, List.append_toArray, List.nil_append, List.cons_append]
  gi_wp2_with ((gi_at_call 119; refine C.out.mono ?_; rintro e w' hR; unfold RowI at hR; obtain ⟨v, rfl, q1, q2, q3⟩ := hR))
  go_ret
  unfold RowI
  exact ⟨v, rfl, q1, q2, q3⟩

/-- What Sorted hands back: a row of its own, what came, sorted. -/
def SortedI (w : World) (l : List Int) (e : Ending) (w' : World) : Prop :=
  ∃ v, e = .returned v ∧ w'.ownsRow w.heap.size 3 1 v l.length ((l.mergeSort (fun x y => decide (x ≤ y))).map encZ) ∧ Below w.heap.size w w'

set_option maxHeartbeats 2000000 in
theorem iSorted_in (F : Fence) (n : Nat) (hfs : F.fn 80) (hfo : F.fn 106) (hf0 : F.fn 105) (hf : F.fn 119) (hf1 : F.fn 107) (hro : F.round = none) (hn : 5 ≤ n) (hsort : AnyZI.SortsIn Tryz.prog Tryz.sortedI_ren F (n - 1)) (Bs cap : Nat) (a : Option Addr) (l : List Int) (hlen : l.length ≤ 1000000) (w : World) (hBs : Bs < w.heap.size)
    (hc : w.cell? ⟨Bs, 0, none⟩ = some (.slice a l.length cap)) (hP : IsLz w.heap.size w a l) :
    CallsIn F n Tryz.prog 80 #[.func (.func 107) #[] #[.pointer (some ⟨Bs, 0, none⟩)]] w (SortedI w l) := by
  have C := Lib.hid (iCollect F (n - 1) hf0 hf hf1 hro (by omega) Bs cap a l hlen w hBs hc hP)
  have HL := Lib.hid hlen
  have h1 : 1 ≤ n := by omega
  clear hc hP hBs hlen
  refine callsIn_of_wp Tryz.func80 rfl hfs ?_ hro
  simp only [Tryz.ntmps80, List.size_toArray, List.length_cons, List.length_nil, Nat.reduceAdd, Nat.reduceSub, Array.replicate_succ, Array.replicate_zero, List.push_toArray, List.append_toArray, List.nil_append, List.cons_append]
  gi_wp2_with ((gi_at_call 105; refine C.out.mono ?_))
  rintro e W hR
  unfold RowI at hR
  obtain ⟨v, rfl, hrow, hnil, hb⟩ := hR
  rcases hrow.2 with ⟨rfl, hz⟩ | ⟨gb, cap', cur, rfl, hbase, hgb, r1, r2, r3, r4⟩
  · have hss : l = [] := List.eq_nil_of_length_eq_zero hz
    subst hss
    have CS := hsort.2 none 0 W
    change CallsIn _ _ Tryz.prog 106 _ _ _ at CS
    gi_wp2_with (gi_at_call 106; refine CS.mono ?_; rintro e w' ⟨rfl, rfl⟩)
    go_ret
    unfold SortedI
    exact ⟨.slice none 0 0, rfl, by simpa using hrow, hb⟩
  · have hH : Go.Sort.Holds encZ W gb 0 l.toArray := holds_of_block_i hgb (by simpa using r4)
    have hgl : gb < W.heap.size := (Array.getElem?_eq_some_iff.1 hgb).1
    have hsz : l.length < 4611686018427387904 := by have := HL.out; omega
    have CS := hsort.1 gb 0 cap' l W hH hgl hsz
    change CallsIn _ _ Tryz.prog 106 _ _ _ at CS
    gi_wp2_with (gi_at_call 106; refine CS.mono ?_; rintro e w' ⟨rfl, nn, os, rfl⟩)
    go_ret
    unfold SortedI
    exact ⟨_, rfl, ownsRow_sorted_i (by simp) hbase hgb r1 r2 r3, hb.grown (grownBy_sorted_i _) hb.size (fun j hj => by cases hj; exact hbase)⟩

theorem iSorted (Bs cap : Nat) (a : Option Addr) (l : List Int) (hlen : l.length ≤ 1000000) (w : World) (hBs : Bs < w.heap.size)
    (hc : w.cell? ⟨Bs, 0, none⟩ = some (.slice a l.length cap)) (hP : IsLz w.heap.size w a l) :
    Calls Tryz.prog 80 #[.func (.func 107) #[] #[.pointer (some ⟨Bs, 0, none⟩)]] w (SortedI w l) :=
  callsIn_wide.1 (iSorted_in Fence.wide 6 trivial trivial trivial trivial trivial rfl (by omega) (sortsI _) Bs cap a l hlen w hBs hc hP)

/-! ### Compact -/
theorem compact_mem {x : Int} (zs : List Int) : x ∈ Lib.compact zs ↔ x ∈ zs := by
  constructor
  · intro h
    unfold Lib.compact Lib.compactUpTo at h
    obtain ⟨i, hi, rfl⟩ := List.mem_map.1 h
    have hi' : i < zs.length := List.mem_range.1 (List.mem_filter.1 hi).1
    simp [getElem!_pos, hi']
  · have key : ∀ m, m ≤ zs.length → ∀ i, i < m → zs.getD i 0 ∈ Lib.compactUpTo zs.toArray m := by
      intro m
      induction m with
      | zero => intro _ i hi; omega
      | succ m ih =>
        intro hm i hi
        rw [Lib.compactUpTo_succ, List.mem_append]
        rcases Nat.lt_or_ge i m with h | h
        · exact .inl (ih (by omega) i h)
        · obtain rfl : i = m := by omega
          by_cases hk : Lib.keeps zs.toArray i = true
          · right
            rw [if_pos hk]
            have hi2 : i < zs.length := by omega
            simp [getElem!_pos, hi2, List.getD_eq_getElem?_getD]
          · left
            rcases Nat.eq_zero_or_pos i with h0 | h0
            · subst h0
              exact absurd (Lib.keeps_lt_one _ 0 (by omega)) hk
            · have := ih (by omega) (i - 1) (by omega)
              have e : zs.getD i 0 = zs.getD (i - 1) 0 := by
                unfold Lib.keeps at hk
                have hi2 : i < zs.length := by omega
                have hi3 : i - 1 < zs.length := by omega
                simp [getElem!_pos, hi2, hi3] at hk
                simp [List.getD_eq_getElem?_getD, hi2, hi3]
                omega
              rw [e]
              exact this
    intro h
    obtain ⟨i, hi, rfl⟩ := List.getElem_of_mem h
    have := key zs.length (Nat.le_refl _) i hi
    rw [List.getD_eq_getElem?_getD, List.getElem?_eq_getElem hi] at this
    exact this

/-- What Compact hands back: a slice that reads as what was there, each once; none of what lies below B has changed. -/
def CompactI (B : Nat) (w : World) (zs : List Int) (e : Ending) (w' : World) : Prop :=
  ∃ (a : Option Addr) (cap : Nat) (r : List Int), e = .returned (.slice a r.length cap) ∧ (∀ x, x ∈ r ↔ x ∈ zs) ∧ r.length ≤ zs.length ∧
    (0 < r.length → ∃ g, a = some ⟨g, 0, none⟩ ∧ B ≤ g ∧ g < w'.heap.size ∧ ∀ i, i < r.length → w'.cell? ⟨g, 0 + i, none⟩ = some (.int .i64 (r.getD i 0))) ∧ KeptIn (· < B) w w'

theorem iCompact (B : Nat) (v : Value) (zs : List Int) (w : World) (hz : zs.length ≤ 1000000) (hrow : w.ownsRow B 3 1 v zs.length (zs.map encZ)) :
    ∃ a n cap, v = .slice a n cap ∧ Calls Tryz.prog 79 #[.slice a n cap] w (CompactI B w zs) := by
  rcases hrow.2 with ⟨rfl, h0⟩ | ⟨g, cap, cur, rfl, hB, hg, r1, r2, r3, r4⟩
  · refine ⟨none, 0, 0, rfl, (Tryz.slices_Compact_int_empty none 0 w).mono ?_⟩
    rintro e w' ⟨rfl, rfl⟩
    have : zs = [] := List.eq_nil_of_length_eq_zero h0
    subst this
    exact ⟨none, 0, [], rfl, fun x => Iff.rfl, Nat.le_refl _, fun h => absurd h (Nat.lt_irrefl 0), .refl _ _⟩
  · have hH : Go.Sort.Holds encZ w g 0 zs.toArray := holds_of_block_i hg (by simpa using r4)
    refine ⟨some ⟨g, 0, none⟩, zs.length, cap, rfl, (Tryz.slices_Compact_int g 0 cap zs w hH (by omega) r1).mono ?_⟩
    rintro e w' ⟨rfl, q, rfl⟩
    have hl : (Lib.compact zs).length ≤ zs.length := by
      unfold Lib.compact Lib.compactUpTo
      rw [List.length_map]
      refine Nat.le_trans (List.length_filter_le _ _) ?_
      rw [List.length_range]
      exact Nat.le_refl _
    have hsz : (Lib.compact zs ++ List.replicate (zs.length - (Lib.compact zs).length) 0).toArray.size = zs.toArray.size := by simp; omega
    have hH' := Go.Sort.holds_putRow encZ (Sort.ahead w q) g 0 zs.toArray _ hH hsz
    have hgl : g < w.heap.size := (Array.getElem?_eq_some_iff.1 hg).1
    refine ⟨_, cap, Lib.compact zs, rfl, fun x => compact_mem zs, hl, fun hp => ⟨g, rfl, hB, ?_, fun i hi => ?_⟩, ?_⟩
    · show g < (Go.Sort.putRow encZ (Sort.ahead w q) g 0 _).heap.size
      rw [Go.Sort.size_putRow]
      exact hgl
    · have h1 := (hH' i (by rw [hsz]; simp; omega)).1
      have hi2 : i < (Lib.compact zs ++ List.replicate (zs.length - (Lib.compact zs).length) 0).length := by simp; omega
      refine h1.trans ?_
      rw [getElem!_pos _ i (by simpa using hi2)]
      simp [List.getD_eq_getElem?_getD, hi, List.getElem_append_left, encZ]
    · refine ⟨rfl, rfl, rfl, by show _ ≤ (Go.Sort.putRow encZ (Sort.ahead w q) g 0 _).heap.size; rw [Go.Sort.size_putRow]; exact Nat.le_refl _, fun k hk => ?_⟩
      have hne : g ≠ k := fun e => by omega
      show (Go.Sort.putRow encZ (Sort.ahead w q) g 0 _).heap[k]? = _
      simp [Go.Sort.putRow, Go.Sort.mapBlock, Sort.ahead, Array.getElem?_modify, hne]

end Go.Proofs.YtkgjmejgkffbdaaGreatDoor
/- A store's device written to: new pages, a head. -/
set_option linter.unusedVariables false
namespace Go.Proofs.YtkgjmejgkffbdaaGreatDoor
open Go.RowKit

section
variable {A : Ad} {N : Nat} {p : Pw} {S : List (List UInt8)} {M : Int → Option (List UInt8)} {h : Hd} {a : Nat} {P : List Pag} {W : World}
theorem svWrite (k : Sv A N p S M h a P W) (x : Int) (l : List UInt8) (n : Nat) (hl : l.length ≤ maxLen) (hn : l.length = 16 * n) (hf : fits S.length x n = true) (hN : N + n < maxLen) :
    Calls Tryz.prog 37 #[.pointer (some ⟨A.d, 0, none⟩), .int .i64 x, .string ⟨l.toArray⟩] W fun e w' => e = .returned (.int .i64 (if (Pw.go n p).1 = n then 0 else 4)) ∧ Sv A (N + n) (Pw.go n p).2 S (putN M x l (Pw.go n p).1) h a P w' ∧ Fr A W w' := by
  refine (dWrite A.d A.m A.s A.b N p S M x l n W k.isD k.isP hl hn hf hN).mono ?_
  rintro e w' ⟨rfl, h1, h2, h3⟩
  exact ⟨rfl, k.dev h1 h2 rfl (h3.mono fun k hk => ⟨hk.1, hk.2.1, hk.2.2.2⟩)⟩
theorem svFlushOn (k : Sv A N p S M h a P W) (hc : p.can = true) :
    Calls Tryz.prog 39 #[.pointer (some ⟨A.d, 0, none⟩)] W fun e w' => e = .returned (.int .i64 0) ∧ Sv A 0 p.use (flushed S M) (fun _ => none) h a P w' ∧ Fr A W w' := by
  refine (dFlushOn A.d A.m A.s A.b N p S M W k.isD k.isP hc).mono ?_
  rintro e w' ⟨rfl, h1, h2, h3⟩
  exact ⟨rfl, k.dev h1 h2 (flushed_len S M) (h3.mono fun k hk => ⟨hk.1, hk.2.1, hk.2.2.1, hk.2.2.2⟩)⟩
theorem svFlushOff (k : Sv A N p S M h a P W) (hc : p.can = false) :
    Calls Tryz.prog 39 #[.pointer (some ⟨A.d, 0, none⟩)] W fun e w' => e = .returned (.int .i64 4) ∧ Sv A N p.use S M h a P w' ∧ Fr A W w' := by
  refine (dFlushOff A.d A.m A.s A.b N p S M W k.isD k.isP hc).mono ?_
  rintro e w' ⟨rfl, h1, h2⟩
  obtain ⟨n1, n2, n3⟩ := k.isP.1.ne k.isD
  exact ⟨rfl, k.dev (k.isD.kept h2 n1.symm n2.symm n3.symm) h1 rfl (h2.mono fun k hk => hk.2.1)⟩
end

/-- What Flush does. -/
def flE (p : Pw) : Int := if p.can then 0 else 4
theorem svFlush {A : Ad} {N : Nat} {p : Pw} {S : List (List UInt8)} {M : Int → Option (List UInt8)} {h : Hd} {a : Nat} {P : List Pag} {W : World} (k : Sv A N p S M h a P W) :
    Calls Tryz.prog 39 #[.pointer (some ⟨A.d, 0, none⟩)] W fun e w' => e = .returned (.int .i64 (flE p)) ∧ (∃ N' S' M', (p.can = true → N' = 0 ∧ S' = flushed S M ∧ M' = fun _ => none) ∧ (p.can = false → N' = N ∧ S' = S ∧ M' = M) ∧ Sv A N' p.use S' M' h a P w') ∧ Fr A W w' := by
  unfold flE
  cases hc : p.can with
  | true =>
    refine (svFlushOn k hc).mono ?_
    rintro e w' ⟨rfl, h1, h2⟩
    exact ⟨rfl, ⟨_, _, _, fun _ => ⟨rfl, rfl, rfl⟩, (fun h => by cases h), h1⟩, h2⟩
  | false =>
    refine (svFlushOff k hc).mono ?_
    rintro e w' ⟨rfl, h1, h2⟩
    exact ⟨rfl, ⟨_, _, _, (fun h => by cases h), fun _ => ⟨rfl, rfl, rfl⟩, h1⟩, h2⟩

/-- Sector x lies in a new page among these. -/
def inNewI (P : List Pag) (l : List Int) (x : Nat) : Prop := ∃ q : Nat, (q : Int) ∈ l ∧ stOf P q = 1 ∧ 16 * q ≤ x ∧ x < 16 * q + 16

/-- What writeNew leaves. -/
def OutN (P : List Pag) (l : List Int) (S S' : List (List UInt8)) (M' : Int → Option (List UInt8)) (e : Int) : Prop :=
  (e = 0 ∧ (M' = fun _ => none) ∧ (∀ x, x < S.length → ¬ inNewI P l x → S'.getD x [] = S.getD x []) ∧ (∀ q : Nat, (q : Int) ∈ l → stOf P q = 1 → ∀ i, i < 16 → S'.getD (16 * q + i) [] = nth (txOf P q) i)) ∨
  (e = 4 ∧ S' = S ∧ ∀ x : Nat, ¬ inNewI P l x → M' (x : Int) = none)
def NewS (A : Ad) (w : World) (p : Pw) (S : List (List UInt8)) (h : Hd) (a : Nat) (P : List Pag) (l : List Int) (e : Ending) (w' : World) : Prop :=
  ∃ (e' : Int) (N' : Nat) (p' : Pw) (S' : List (List UInt8)) (M' : Int → Option (List UInt8)), e = .returned (.int .i64 e') ∧ Sv A N' p' S' M' h a P w' ∧ Fr A w w' ∧ (e' = 0 → N' = 0) ∧ S'.length = S.length ∧ OutN P l S S' M' e' ∧ (p.sure → e' = 0 ∧ p'.sure)

/-- The pages that are written: each is one of these. -/
structure Rs (n : Nat) (P : List Pag) (l r : List Int) : Prop where
  mem : ∀ x, x ∈ r ↔ x ∈ l
  len : r.length ≤ l.length
  ok : ∀ x ∈ r, ∃ q : Nat, x = (q : Int) ∧ 1 ≤ q ∧ q < n

/-- Between two rounds of writeNew. -/
structure Rw (A : Ad) (w : World) (p : Pw) (S : List (List UInt8)) (h : Hd) (a : Nat) (P : List Pag) (r : List Int) (g : Option Addr) (j : Nat) (W : World) : Prop where
  ex : ∃ Nj pj Mj, Nj ≤ 16 * j ∧ wNew P ((r.map Int.toNat).drop j) Mj pj = wNew P (r.map Int.toNat) (fun _ => none) p ∧ Sv A Nj pj S Mj h a P W
  fr : Fr A w W
  row : IntsIn A W g r

theorem new_step (P : List Pag) (r : List Int) (j : Nat) (hj : j < r.length) (q : Nat) (hq : r.getD j 0 = (q : Int)) : (r.map Int.toNat).drop j = q :: (r.map Int.toNat).drop (j + 1) := by
  have h1 : j < (r.map Int.toNat).length := by simpa using hj
  rw [List.drop_eq_getElem_cons h1]
  congr 1
  rw [List.getD_eq_getElem?_getD, List.getElem?_eq_getElem hj] at hq
  simp only [Option.getD_some] at hq
  simp [hq]

theorem out_done {n : Nat} {P : List Pag} {l r : List Int} {S : List (List UInt8)} {M : Int → Option (List UInt8)} {p p' : Pw} (hr : Rs n P l r) (hn : 16 * n ≤ S.length) (h : wNew P (r.map Int.toNat) (fun _ => none) p = (true, M, p')) :
    OutN P l S (flushed S M) (fun _ => none) 0 := by
  have hmem : ∀ q : Nat, q ∈ r.map Int.toNat ↔ (q : Int) ∈ l := fun q => by
    rw [List.mem_map]
    constructor
    · rintro ⟨x, hx, rfl⟩
      obtain ⟨q, rfl, _⟩ := hr.ok x hx
      exact (hr.mem _).1 (by simpa using hx)
    · intro hq
      exact ⟨(q : Int), (hr.mem _).2 hq, by simp⟩
  refine .inl ⟨rfl, rfl, fun x hx hnot => ?_, fun q hq hs i hi => ?_⟩
  · rw [flushed_get x hx]
    have h1 := wNew_other P (r.map Int.toNat) (fun _ => none) p (x : Int) fun q hq hs hc => hnot ⟨q, (hmem q).1 hq, hs, by omega, by omega⟩
    rw [h] at h1
    exact now_not x h1
  · have h1 := wNew_put P q hs i hi (r.map Int.toNat) (fun _ => none) p ((hmem q).2 hq) (by rw [h])
    rw [h] at h1
    obtain ⟨q', e, _, hqn⟩ := hr.ok _ ((hr.mem _).2 hq)
    rw [flushed_get _ (by omega)]
    exact now_of _ _ h1
theorem out_lost {n : Nat} {P : List Pag} {l r : List Int} {S : List (List UInt8)} {M : Int → Option (List UInt8)} {p : Pw} (hr : Rs n P l r) (h : (wNew P (r.map Int.toNat) (fun _ => none) p).2.1 = M) :
    OutN P l S S M 4 := by
  refine .inr ⟨rfl, rfl, fun x hnot => ?_⟩
  rw [← h]
  refine wNew_other P (r.map Int.toNat) (fun _ => none) p (x : Int) fun q hq hs hc => hnot ⟨q, ?_, hs, by omega, by omega⟩
  obtain ⟨y, hy, rfl⟩ := List.mem_map.1 hq
  obtain ⟨q, rfl, _⟩ := hr.ok y hy
  exact (hr.mem _).1 (by simpa using hy)

set_option maxRecDepth 100000 in
set_option maxHeartbeats 4000000 in
theorem stNew {A : Ad} {p : Pw} {S : List (List UInt8)} {h : Hd} {a : Nat} {P : List Pag} {w : World} (k : Sv A 0 p S (fun _ => none) h a P w) (a' : Option Addr) (cap : Nat) (l : List Int) (hi : IntsIn A w a' l) (hl : l.length ≤ 100000) (hu : l.all (usedB P) = true) :
    Calls Tryz.prog 47 #[.pointer (some ⟨A.st, 0, none⟩), .slice a' l.length cap] w (NewS A w p S h a P l) := by
  have hpl := k.plen
  have hAlt := k.lts
  obtain ⟨n, hn⟩ : ∃ n, P.length = n := ⟨_, rfl⟩
  rw [hn] at hpl
  have hok : ∀ x ∈ l, ∃ q : Nat, x = (q : Int) ∧ 1 ≤ q ∧ q < n := fun x hx => by
    have h1 := List.all_eq_true.1 hu x hx
    unfold usedB holdsB at h1
    simp only [Bool.and_eq_true, decide_eq_true_eq] at h1
    exact ⟨x.toNat, by omega, by omega, by omega⟩
  -- the numbers, rising
  obtain ⟨W0, hW0⟩ : ∃ W0, w.alloc (.cells #[.slice a' l.length cap] 40) = W0 := ⟨_, rfl⟩
  have hk0 : KeptIn (· < w.heap.size) w W0 := by rw [← hW0]; exact (KeptIn.refl _ w).alloc (fun _ h => h) _
  have hbx : W0.heap[w.heap.size]? = some (.cells #[.slice a' l.length cap] 40 (0, 0)) := by rw [← hW0]; exact heap_alloc_new w _
  have hsz0 : W0.heap.size = w.heap.size + 1 := by rw [← hW0]; simp
  have CV := iValues a' l.length cap w
  rw [hW0] at CV
  have hP0 : IsLz W0.heap.size W0 a' l := fun hp => by
    obtain ⟨b, off, e, hlt, _, hc⟩ := (hi.old hk0).cells hp
    exact ⟨b, off, e, hlt, hc⟩
  have CS := iSorted w.heap.size cap a' l (by omega) W0 (by omega) (by simp [World.cell?, hbx]) hP0
  have hr0 : ∀ r, (∀ x, x ∈ r ↔ x ∈ l) → r.length ≤ l.length → Rs n P l r := fun r h1 h2 => ⟨h1, h2, fun x hx => hok x ((h1 x).1 hx)⟩
  have hgo : ∀ W2 g r, KeptIn (· < W0.heap.size) W0 W2 → (∀ x, x ∈ r ↔ x ∈ l) → r.length ≤ l.length → (0 < r.length → ∃ b, g = some ⟨b, 0, none⟩ ∧ W0.heap.size ≤ b ∧ b < W2.heap.size ∧ ∀ i, i < r.length → W2.cell? ⟨b, 0 + i, none⟩ = some (.int .i64 (r.getD i 0))) →
      Rw A w p S h a P r g 0 W2 := fun W2 g r hk2 h1 h2 h3 => by
    have hk : KeptIn (· < w.heap.size) w W2 := hk0.trans (hk2.mono fun k hk => Nat.lt_of_lt_of_le hk hk0.size)
    refine ⟨⟨0, p, fun _ => none, Nat.le_refl _, by rw [List.drop_zero], k.old hk⟩, Fr.of_old hk, by unfold maxLen; omega, fun x hx => ?_, fun hp => ?_⟩
    · obtain ⟨q, rfl, _, hq⟩ := hok x ((h1 x).1 hx)
      constructor <;> omega
    · obtain ⟨b, e, hb0, hb1, hc⟩ := h3 hp
      exact ⟨b, 0, e, hb1, fun hA => by have := hAlt b hA; have := hk0.size; omega, hc⟩
  have HGO := Lib.hid hgo
  have HR0 := Lib.hid hr0
  have HPL := Lib.hid hpl
  have HLL := Lib.hid hl
  have HN := Lib.hid hn
  have HCV := Lib.hid CV
  have HCS := Lib.hid CS
  have hsl : ∀ zs : List Int, zs = l.mergeSort (fun x y => decide (x ≤ y)) → zs.length = l.length ∧ ∀ x, x ∈ zs ↔ x ∈ l := fun zs e => by
    subst e
    exact ⟨List.length_mergeSort _, fun x => List.mem_mergeSort⟩
  have HSL := Lib.hid hsl
  have hm : l.length ≤ 1000000 := by omega
  have HM := Lib.hid hm
  obtain ⟨B0, hB0⟩ : ∃ B0, W0.heap.size = B0 := ⟨_, rfl⟩
  clear hpl hok hk0 hbx hsz0 CV hP0 CS hr0 hgo hl hn hsl hm hi hu k hAlt hW0
  go_enter Tryz.func47, Tryz.ntmps47
  go_wp2_with (go_at_call 81; refine HCV.out.mono ?_)
  rintro e W1 ⟨rfl, rfl⟩
  go_wp2_with (go_at_call 80; refine HCS.out.mono ?_)
  rintro e W2 hR
  unfold SortedI at hR
  obtain ⟨v, rfl, hrow, hb⟩ := hR
  obtain ⟨zs, hzs⟩ : ∃ zs, l.mergeSort (fun x y => decide (x ≤ y)) = zs := ⟨_, rfl⟩
  rw [hzs] at hrow
  obtain ⟨hz1, hz2⟩ := HSL.out zs hzs.symm
  rw [← hz1] at hrow
  obtain ⟨g0, n0, cap0, rfl, CC⟩ := iCompact W1.heap.size v zs W2 (by rw [hz1]; exact HM.out) hrow
  have HCC := Lib.hid CC
  have HZ := Lib.hid (And.intro hz1 hz2)
  have HKB : Hid (KeptIn (· < W1.heap.size) W1 W2) := Lib.hid (KeptIn.of_below hb fun _ h => h)
  clear hrow hb hzs CC hz1 hz2 HCS HCV HSL hB0
  go_wp2_with (go_at_call 79; refine HCC.out.mono ?_)
  rintro e W3 hR
  unfold CompactI at hR
  obtain ⟨g, cap1, r, rfl, hm, hlen, hc, hk3⟩ := hR
  have hmem : ∀ x, x ∈ r ↔ x ∈ l := fun x => (hm x).trans (HZ.out.2 x)
  have hrl : r.length ≤ l.length := by rw [← HZ.out.1]; exact hlen
  have HW := Lib.hid (HGO.out W3 g r (HKB.out.trans hk3) hmem hrl hc)
  have HRS := Lib.hid (HR0.out r hmem hrl)
  obtain ⟨rl, hrl2⟩ : ∃ rl, r.length = rl := ⟨_, rfl⟩
  have hrm : rl ≤ 100000 := by have := HLL.out; omega
  have HRL := Lib.hid hrl2
  rw [hrl2]
  clear hm hlen hc hk3 hmem hrl HKB HZ HCC HGO HR0 hrl2
  go_wp2_with fail
  go_loopw [7, 8, 15] (fun _ _ c wr => ∃ (j : Nat) (W' : World), W' = wr ∧ j ≤ rl ∧ c = .int .i64 j ∧ Hid (Rw A w p S h a P r g j W')) (fun _ _ c _ => rl - (RowKit.intOf c).toNat)
  case atStart => exact ⟨0, _, rfl, Nat.zero_le _, rfl, HW⟩
  case round =>
    obtain ⟨j, W', rfl, hj, rfl, HJ⟩ := hrel
    clear HW
    have b0 : (0 : Int) ≤ (j : Int) := by omega
    obtain ⟨Nj, pj, Mj, hNj, hw, ks⟩ := HJ.out.ex
    have hfr := HJ.out.fr
    have hrw := HJ.out.row
    have c0 := ks.isS.c0
    have c7 := ks.isS.c7
    rw [HN.out] at c7
    by_cases hlt : j < rl
    · have b1 : (j : Int) < (rl : Int) := by omega
      have hjr : j < r.length := by rw [HRL.out]; exact hlt
      obtain ⟨b, off, rfl, hb, _, hc⟩ := hrw.cells (by omega)
      have e1 := hc j hjr
      obtain ⟨x, hx⟩ : ∃ x, r.getD j 0 = x := ⟨_, rfl⟩
      have hxr : x ∈ r := by
        rw [← hx, List.getD_eq_getElem?_getD, List.getElem?_eq_getElem hjr]
        exact List.getElem_mem hjr
      obtain ⟨q, rfl, hq1, hqn⟩ := HRS.out.ok x hxr
      rw [hx] at e1
      have hstep := new_step P r j hjr q hx
      rw [hstep, wNew] at hw
      obtain ⟨e2, e3⟩ := ks.isS.at q (by rw [HN.out]; exact hqn)
      have hst := ks.sts q
      have htx := ks.txs q
      have b2 : (0 : Int) ≤ (q : Int) := by omega
      have b3 : (q : Int) < (n : Int) := by omega
      obtain ⟨sq, hsq⟩ : ∃ sq, stOf P q = sq := ⟨_, rfl⟩
      obtain ⟨tq, htq⟩ : ∃ tq, txOf P q = tq := ⟨_, rfl⟩
      rw [hsq] at hw e2 hst htx
      rw [htq] at hw e3 htx
      by_cases hs1 : sq = 1
      · subst hs1
        have htl := htx rfl
        obtain ⟨tt, htt⟩ : ∃ tt, 16 * q = tt := ⟨_, rfl⟩
        have b4 : wrap64 ((q : Int) * 16) = (tt : Int) := by have := HPL.out; unfold wrap64; omega
        have b4' : IntKind.i64.wrap ((q : Int) * 16) = (tt : Int) := by have := HPL.out; rw [IntKind.wrap_i64]; omega
        rw [htt] at hw
        have hsl : 16 * n ≤ S.length := HPL.out.2.1
        have CW : ∀ V, KeptIn (· < W'.heap.size) W' V → Calls Tryz.prog 37 #[.pointer (some ⟨A.d, 0, none⟩), .int .i64 (tt : Int), .string ⟨tq.toArray⟩] V fun e V' => e = .returned (.int .i64 (if (Pw.go 16 pj).1 = 16 then 0 else 4)) ∧ Sv A (Nj + 16) (Pw.go 16 pj).2 S (putN Mj (tt : Int) tq (Pw.go 16 pj).1) h a P V' ∧ Fr A V V' := fun V hV =>
          svWrite (ks.old hV) (tt : Int) tq 16 (by rw [htl]; unfold maxLen; omega) htl (by simp only [fits, Bool.and_eq_true, decide_eq_true_eq]; omega) (by unfold maxLen; omega)
        by_cases hgo : (Pw.go 16 pj).1 = 16
        · rw [if_pos rfl, if_pos hgo] at hw
          simp only [if_pos hgo] at CW
          rw [hgo] at CW
          have HCW := Lib.hid CW
          have HST : Hid (∀ V W4, KeptIn (· < W'.heap.size) W' V → Sv A (Nj + 16) (Pw.go 16 pj).2 S (putN Mj (tt : Int) tq 16) h a P W4 → Fr A V W4 → Rw A w p S h a P r (some ⟨b, off, none⟩) (j + 1) W4) := Lib.hid fun V W4 hV k4 f4 =>
            ⟨⟨_, _, _, by omega, hw, k4⟩, (hfr.trans' (Fr.of_old hV)).trans' f4, (hrw.old hV).fr f4⟩
          clear CW hw hstep hc hx hxr hsq htq hst htx htl hrw hfr HJ ks hjr hgo hNj hb hq1 htt
          go_wp2_with fail
          go_region_law (first | (go_simp; go_at_call 37; refine (HCW.out _ ((KeptIn.refl _ _).drew)).mono ?_; rintro e W4 ⟨rfl, k4, f4⟩))
          all_goals
            have HK4 := Lib.hid (HST.out _ W4 ((KeptIn.refl _ _).drew) k4 f4)
            clear k4 f4 c0 c7 e1 e2 e3
            go_wp2_with fail
            go_roundw
            case rel => exact ⟨j + 1, _, rfl, by omega, by go_num, HK4⟩
            case measure => simp [RowKit.intOf]; omega
        · rw [if_pos rfl, if_neg hgo] at hw
          simp only [if_neg hgo] at CW
          have HCW := Lib.hid CW
          have hnsure : ¬ p.sure := fun hs => by
            have := wNew_sure P (r.map Int.toNat) (fun _ => none) p hs
            rw [← hw] at this
            cases this.1
          have HST : Hid (∀ V W4, KeptIn (· < W'.heap.size) W' V → Sv A (Nj + 16) (Pw.go 16 pj).2 S (putN Mj (tt : Int) tq (Pw.go 16 pj).1) h a P W4 → Fr A V W4 → NewS A w p S h a P l (.returned (.int .i64 4)) W4) := Lib.hid fun V W4 hV k4 f4 =>
            ⟨4, _, _, _, _, rfl, k4, (hfr.trans' (Fr.of_old hV)).trans' f4, (fun h => by cases h), rfl, out_lost HRS.out (by rw [← hw]), fun hs => absurd hs hnsure⟩
          clear CW hw hstep hc hx hxr hsq htq hst htx htl hrw hfr HJ ks hjr hgo hNj hb hq1 hnsure htt
          go_wp2_with fail
          go_region_law (first | (go_simp; go_at_call 37; refine (HCW.out _ ((KeptIn.refl _ _).drew)).mono ?_; rintro e W4 ⟨rfl, k4, f4⟩))
          all_goals
            have HK4 := Lib.hid (HST.out _ W4 ((KeptIn.refl _ _).drew) k4 f4)
            clear k4 f4 c0 c7 e1 e2 e3
            go_wp2_with fail
            go_ret
            exact HK4.out
      · rw [if_neg hs1] at hw
        have b4 : ¬ (sq : Int) = 1 := by omega
        have HK4 := Lib.hid (show Rw A w p S h a P r (some ⟨b, off, none⟩) (j + 1) W' from ⟨⟨Nj, pj, Mj, by omega, hw, ks⟩, hfr, hrw⟩)
        clear hw hstep hc hx hxr hsq htq hst htx hrw hfr HJ ks hjr hNj hb hq1 hs1
        go_wp2_with fail
        go_roundw
        case rel => exact ⟨j + 1, _, rfl, by omega, by go_num, HK4⟩
        case measure => simp [RowKit.intOf]; omega
    · obtain rfl : j = rl := by omega
      have b1 : (j : Int) ≤ (j : Int) := Int.le_refl _
      have hdr : (r.map Int.toNat).drop j = [] := List.drop_eq_nil_of_le (by rw [List.length_map, HRL.out]; exact Nat.le_refl _)
      rw [hdr, wNew] at hw
      have CF := Lib.hid (svFlush ks)
      have hlen : 16 * n ≤ S.length := HPL.out.2.1
      have hfin : ∀ W4, (∃ N' S' M', (pj.can = true → N' = 0 ∧ S' = flushed S Mj ∧ M' = fun _ => none) ∧ (pj.can = false → N' = Nj ∧ S' = S ∧ M' = Mj) ∧ Sv A N' pj.use S' M' h a P W4) → Fr A W' W4 → NewS A w p S h a P l (.returned (.int .i64 (flE pj))) W4 := by
        rintro W4 ⟨N', S', M', q1, q2, k4⟩ f4
        cases hcan : pj.can with
        | true =>
          obtain ⟨rfl, rfl, rfl⟩ := q1 hcan
          refine ⟨flE pj, _, _, _, _, rfl, k4, hfr.trans' f4, fun _ => rfl, flushed_len _ _, ?_, fun hs => ?_⟩
          · rw [flE, hcan]
            exact out_done HRS.out hlen hw.symm
          · have := wNew_sure P (r.map Int.toNat) (fun _ => none) p hs
            rw [← hw] at this
            exact ⟨by rw [flE, hcan]; rfl, this.2.use⟩
        | false =>
          obtain ⟨rfl, rfl, rfl⟩ := q2 hcan
          refine ⟨flE pj, _, _, _, _, rfl, k4, hfr.trans' f4, (fun h => by rw [flE, hcan] at h; cases h), rfl, ?_, fun hs => ?_⟩
          · rw [flE, hcan]
            exact out_lost HRS.out (by rw [← hw])
          · have := wNew_sure P (r.map Int.toNat) (fun _ => none) p hs
            rw [← hw] at this
            have := this.2.can
            rw [hcan] at this
            cases this
      have HFIN := Lib.hid hfin
      clear hfin hw hdr hfr hrw ks HJ hNj c7
      go_wp2_with (go_at_call 39; refine CF.out.mono ?_)
      rintro e W4 ⟨rfl, h4, f4⟩
      have HK4 := Lib.hid (HFIN.out W4 h4 f4)
      clear h4 f4 c0
      obtain ⟨o, ho⟩ : ∃ o, flE pj = o := ⟨_, rfl⟩
      rw [ho] at HK4 ⊢
      clear ho HFIN CF
      go_wp2_with fail
      go_ret
      exact HK4.out

end Go.Proofs.YtkgjmejgkffbdaaGreatDoor
/- A store's writeHead and Commit. -/
set_option linter.unusedVariables false
namespace Go.Proofs.YtkgjmejgkffbdaaGreatDoor
open Go.RowKit

/-- What writeHead leaves. -/
def OutH (x : Nat) (l : List UInt8) (S S' : List (List UInt8)) (M' : Int → Option (List UInt8)) (e : Int) : Prop :=
  (e = 0 ∧ (M' = fun _ => none) ∧ (∀ i, i < S.length → i ≠ x → S'.getD i [] = S.getD i []) ∧ S'.getD x [] = l) ∨
  (e = 4 ∧ S' = S ∧ (∀ i : Nat, i ≠ x → M' (i : Int) = none) ∧ (M' (x : Int) = none ∨ M' (x : Int) = some l))
def HeadW (A : Ad) (w : World) (p : Pw) (S : List (List UInt8)) (h : Hd) (a : Nat) (P : List Pag) (x : Nat) (l : List UInt8) (e : Ending) (w' : World) : Prop :=
  ∃ (e' : Int) (N' : Nat) (p' : Pw) (S' : List (List UInt8)) (M' : Int → Option (List UInt8)), e = .returned (.int .i64 e') ∧ Sv A N' p' S' M' h a P w' ∧ Fr A w w' ∧ (e' = 0 → N' = 0) ∧ S'.length = S.length ∧ OutH x l S S' M' e' ∧ (p.sure → e' = 0 ∧ p'.sure)

theorem put_one (x : Nat) (l : List UInt8) (hl : l.length = 16) (y : Nat) : putN (fun _ => none) (x : Int) l 1 (y : Int) = if y = x then some l else none := by
  rw [putN_eq]
  by_cases e : y = x
  · subst e
    rw [if_pos (by omega), if_pos rfl, show ((y : Int) - (y : Int)).toNat = 0 by omega]
    congr 1
    show (l.drop (16 * 0)).take 16 = l
    rw [Nat.mul_zero, List.drop_zero, List.take_of_length_le (by omega)]
  · rw [if_neg (by omega), if_neg e]

set_option maxHeartbeats 1000000 in
theorem stWHead {A : Ad} {p : Pw} {S : List (List UInt8)} {h : Hd} {a : Nat} {P : List Pag} {w : World} (k : Sv A 0 p S (fun _ => none) h a P w) (x : Nat) (hx : x ≤ 1) (l : List UInt8) (hl : l.length = 16) :
    Calls Tryz.prog 48 #[.pointer (some ⟨A.st, 0, none⟩), .int .i64 x, .string ⟨l.toArray⟩] w (HeadW A w p S h a P x l) := by
  have hpl := k.plen
  have htwo := k.two
  have c0 := k.isS.c0
  have CW := svWrite k (x : Int) l 1 (by rw [hl]; unfold maxLen; omega) hl (by simp only [fits, Bool.and_eq_true, decide_eq_true_eq]; omega) (by unfold maxLen; omega)
  have hlen : 32 ≤ S.length := by omega
  cases hcan : p.can with
  | false =>
    have hgo : Pw.go 1 p = (0, p.use) := by rw [Pw.go, hcan, if_neg (by simp)]
    rw [hgo, if_neg (show ¬ ((0, p.use) : Nat × Pw).1 = 1 from fun h => by cases h)] at CW
    have HCW := Lib.hid CW
    have hfin : ∀ W, Sv A (0 + 1) (0, p.use).2 S (putN (fun _ => none) (x : Int) l (0, p.use).1) h a P W → Fr A w W → HeadW A w p S h a P x l (.returned (.int .i64 4)) W := fun W k4 f4 =>
      ⟨4, _, _, _, _, rfl, k4, f4, (fun h => by cases h), rfl, .inr ⟨rfl, rfl, fun _ _ => rfl, .inl rfl⟩, fun hs => by rw [hs.can] at hcan; cases hcan⟩
    have HF := Lib.hid hfin
    clear CW hfin hgo hcan hpl htwo hlen k
    go_enter Tryz.func48, Tryz.ntmps48
    go_wp2_with (go_at_call 37; refine HCW.out.mono ?_; rintro e W1 ⟨rfl, k1, f1⟩; have c0' := k1.isS.c0)
    have HK := Lib.hid (HF.out W1 k1 f1)
    go_ret
    exact HK.out
  | true =>
    have hgo : Pw.go 1 p = (1, p.use) := by rw [Pw.go, hcan, if_pos rfl, Pw.go]
    rw [hgo, if_pos rfl] at CW
    have HCW := Lib.hid CW
    have hfin : ∀ W1 W, Fr A w W1 → (∃ N' S' M', (p.use.can = true → N' = 0 ∧ S' = flushed S (putN (fun _ => none) (x : Int) l 1) ∧ M' = fun _ => none) ∧ (p.use.can = false → N' = 0 + 1 ∧ S' = S ∧ M' = putN (fun _ => none) (x : Int) l 1) ∧ Sv A N' p.use.use S' M' h a P W) → Fr A W1 W → HeadW A w p S h a P x l (.returned (.int .i64 (flE p.use))) W := by
      rintro W1 W f1 ⟨N', S', M', q1, q2, k4⟩ f4
      cases hc2 : p.use.can with
      | true =>
        obtain ⟨rfl, rfl, rfl⟩ := q1 hc2
        refine ⟨flE p.use, _, _, _, _, rfl, k4, f1.trans' f4, fun _ => rfl, flushed_len _ _, .inl ⟨by rw [flE, hc2]; rfl, rfl, fun i hi hne => ?_, ?_⟩, fun hs => ⟨by rw [flE, hc2]; rfl, hs.use.use⟩⟩
        · rw [flushed_get i hi]
          exact now_not i (by rw [put_one x l hl, if_neg hne])
        · rw [flushed_get x (by omega)]
          exact now_of x l (by rw [put_one x l hl, if_pos rfl])
      | false =>
        obtain ⟨rfl, rfl, rfl⟩ := q2 hc2
        refine ⟨flE p.use, _, _, _, _, rfl, k4, f1.trans' f4, (fun h => by rw [flE, hc2] at h; cases h), rfl, .inr ⟨by rw [flE, hc2]; rfl, rfl, fun i hne => by rw [put_one x l hl, if_neg hne], .inr (by rw [put_one x l hl, if_pos rfl])⟩, fun hs => by rw [hs.use.can] at hc2; cases hc2⟩
    have HF := Lib.hid hfin
    clear CW hfin hgo hcan hpl htwo hlen k
    go_enter Tryz.func48, Tryz.ntmps48
    go_wp2_with (first
      | (go_at_call 37; refine HCW.out.mono ?_; rintro e W1 ⟨rfl, k1, f1⟩; have c0' := k1.isS.c0; have CF := Lib.hid (svFlush k1); have HF1 := Lib.hid (fun W => HF.out W1 W f1); clear k1 f1)
      | (go_at_call 39; refine CF.out.mono ?_; rintro e W2 ⟨rfl, h4, f4⟩))
    have HK := Lib.hid (HF1.out W2 h4 f4)
    obtain ⟨o, ho⟩ : ∃ o, flE p.use = o := ⟨_, rfl⟩
    rw [ho] at HK ⊢
    clear h4 f4 HF1 CF c0' ho
    go_ret
    exact HK.out

/-- The head that a Commit would write. -/
def nextH (h : Hd) (root : Int) : Hd := ⟨h.gen + 1, root, h.slow, h.fast, h.chunk⟩
/-- May it be committed? -/
def mayC (h : Hd) (P : List Pag) (root : Int) (l : List Int) : Bool := goodH (nextH h root) && l.all (usedB P) && decide (root = 0 ∨ root ∈ l)

/-- What Commit leaves. -/
def OutC (h : Hd) (a : Nat) (P : List Pag) (root : Int) (l : List Int) (S S' : List (List UInt8)) (M' : Int → Option (List UInt8)) (h' : Hd) (a' : Nat) (P' : List Pag) (e : Int) : Prop :=
  (e = 0 ∧ (M' = fun _ => none) ∧ h' = nextH h root ∧ a' = 1 - a ∧ P' = sweepP (keepP P l) [] ∧ (∀ x, x < S.length → x ≠ 1 - a → ¬ inNewI P l x → S'.getD x [] = S.getD x []) ∧ S'.getD (1 - a) [] = bytesH (nextH h root) ∧
    (∀ q : Nat, (q : Int) ∈ l → stOf P q = 1 → ∀ i, i < 16 → S'.getD (16 * q + i) [] = nth (txOf P q) i)) ∨
  (e = 4 ∧ S' = S ∧ ∀ x : Nat, ¬ inNewI P l x → M' (x : Int) = none) ∨
  (e = 4 ∧ (∀ x, x < S.length → ¬ inNewI P l x → S'.getD x [] = S.getD x []) ∧ (∀ q : Nat, (q : Int) ∈ l → stOf P q = 1 → ∀ i, i < 16 → S'.getD (16 * q + i) [] = nth (txOf P q) i) ∧
    (∀ x : Nat, x ≠ 1 - a → M' (x : Int) = none) ∧ (M' ((1 - a : Nat) : Int) = none ∨ M' ((1 - a : Nat) : Int) = some (bytesH (nextH h root))))
def CommS (A : Ad) (w : World) (p : Pw) (S : List (List UInt8)) (h : Hd) (a : Nat) (P : List Pag) (root : Int) (l : List Int) (e : Ending) (w' : World) : Prop :=
  ∃ (e' : Int) (N' : Nat) (p' : Pw) (S' : List (List UInt8)) (M' : Int → Option (List UInt8)) (h' : Hd) (a' : Nat) (P' : List Pag), e = .returned (.int .i64 e') ∧ Sv A N' p' S' M' h' a' P' w' ∧ Fr A w w' ∧ (e' = 0 → N' = 0) ∧ S'.length = S.length ∧
    OutC h a P root l S S' M' h' a' P' e' ∧ (p.sure → e' = 0 ∧ p'.sure)

/-- Sectors of heads lie in no page that may hold a node. -/
theorem not_new {P : List Pag} {l : List Int} (hu : l.all (usedB P) = true) (x : Nat) (hx : x < 16) : ¬ inNewI P l x := by
  rintro ⟨q, hq, _, h1, h2⟩
  have h3 := List.all_eq_true.1 hu _ hq
  unfold usedB holdsB at h3
  simp only [Bool.and_eq_true, decide_eq_true_eq] at h3
  omega

theorem wrap_gen (g : Nat) (h : g ≤ 4294967295) : IntKind.u64.wrap ((g : Int) + 1) = ((g + 1 : Nat) : Int) := by
  rw [IntKind.wrap_u64]
  omega

end Go.Proofs.YtkgjmejgkffbdaaGreatDoor
/- A store made: storeOf, Format, Open. -/
set_option linter.unusedVariables false
namespace Go.Proofs.YtkgjmejgkffbdaaGreatDoor
open Go.RowKit

theorem infoPage : (Tryz.prog.info? 98).map (fun i => (i.zero, i.size, i.bytes)) = some (some (.agg #[.int .i64 0, .string ⟨#[]⟩]), 2, 24) := by kernel_rfl

theorem made_pages (n : Nat) : madeCells #[.int .i64 0, .string ⟨#[]⟩] (n * 2) = (cellsG (List.replicate n pag0)).toArray := by
  have hl : (cellsG (List.replicate n pag0)).length = n * 2 := by rw [cellsG_length, List.length_replicate]
  have hst : ∀ j, j < n → stOf (List.replicate n pag0) j = 0 ∧ txOf (List.replicate n pag0) j = [] := fun j hj => by
    constructor
    · rw [stOf_get _ _ (by simpa using hj)]; simp [pag0]
    · rw [txOf_get _ _ (by simpa using hj)]; simp [pag0]
  apply Array.ext
  · simp [madeCells, hl]
  · intro i h1 h2
    have hi : i < n * 2 := by simpa [madeCells] using h1
    have hj : i / 2 < n := by omega
    obtain ⟨e1, e2⟩ := cellsG_at (List.replicate n pag0) (i / 2) (by simpa using hj)
    rw [(hst _ hj).1] at e1
    rw [(hst _ hj).2] at e2
    have h3 : (madeCells #[.int .i64 0, .string ⟨#[]⟩] (n * 2))[i] = (#[.int .i64 0, .string ⟨#[]⟩] : Array Value)[i % 2]! := by simp [madeCells]
    rw [h3]
    rcases Nat.mod_two_eq_zero_or_one i with e | e
    · rw [e]
      rw [show i / 2 * 2 = i by omega] at e1
      rw [List.getElem_toArray]
      rw [List.getElem?_eq_getElem (by rw [hl]; exact hi)] at e1
      exact (Option.some.inj e1).symm
    · rw [e]
      rw [show i / 2 * 2 + 1 = i by omega] at e2
      rw [List.getElem_toArray]
      rw [List.getElem?_eq_getElem (by rw [hl]; exact hi)] at e2
      exact (Option.some.inj e2).symm

/-- Pages of which none is committed or new. -/
def noP (n : Nat) : List Pag := List.replicate n pag0
theorem noP_length (n : Nat) : (noP n).length = n := by simp [noP]
theorem noP_st (n q : Nat) : stOf (noP n) q = 0 := by
  by_cases h : q < n
  · rw [stOf_get _ _ (by rw [noP_length]; exact h)]; simp [noP, pag0]
  · exact stOf_ge _ _ (by rw [noP_length]; omega)

theorem alloc3 (w : World) (t1 t2 t3 : Obj) : (((w.alloc t1).drew.alloc t2).alloc t3).heap[w.heap.size + 1 + 1]? = some t3 ∧ (((w.alloc t1).drew.alloc t2).alloc t3).heap[w.heap.size + 1]? = some t2 ∧ KeptIn (· < w.heap.size) w (((w.alloc t1).drew.alloc t2).alloc t3) := by
  have s1 : (w.alloc t1).drew.heap.size = w.heap.size + 1 := by show (w.alloc t1).heap.size = _; simp
  have s2 : ((w.alloc t1).drew.alloc t2).heap.size = w.heap.size + 1 + 1 := by rw [World.size_alloc, s1]
  have k1 : KeptIn (· < w.heap.size) w (w.alloc t1).drew := ((KeptIn.refl _ w).alloc (fun _ h => h) t1).drew
  refine ⟨?_, ?_, (k1.alloc (fun _ h => h) _).alloc (fun _ h => h) _⟩
  · have := World.alloc_heap_new ((w.alloc t1).drew.alloc t2) t3
    rwa [s2] at this
  · rw [Lib.alloc_old _ _ _ (by rw [s2]; omega)]
    have := World.alloc_heap_new (w.alloc t1).drew t2
    rwa [s1] at this

set_option maxHeartbeats 2000000 in
set_option maxRecDepth 100000 in
theorem stStoreOf (d m s b N : Nat) (S : List (List UInt8)) (M : Int → Option (List UInt8)) (w : World) (hD : IsD d m s b N S M w) (h : Hd) (a n : Nat) (hn : min (S.length / 16) 512 = n) :
    Calls Tryz.prog 40 #[.pointer (some ⟨d, 0, none⟩), headV h, .int .i64 a] w fun e w' => ∃ st pg, e = .returned (.pointer (some ⟨st, 0, none⟩)) ∧ StAt ⟨d, m, s, b, st, pg⟩ h a (noP n) w' ∧ KeptIn (· < w.heap.size) w w' ∧ w.heap.size ≤ st ∧ w.heap.size ≤ pg := by
  obtain ⟨i0, hi, hz0, hz1, hz2⟩ := info_parts infoPage
  have hn5 : n ≤ 512 := by omega
  have hmk : ∀ V, (Instr.makeSlice 93 (.int .i64 (n : Int)) (.int .i64 (n : Int))).run Tryz.prog V = .ok (.slice (some ⟨V.heap.size, 0, none⟩) n n) (V.alloc (.cells (cellsG (noP n)).toArray 98)) := fun V => by
    have := run_make (P := Tryz.prog) V 93 98 i0 _ Tryz.underlying93 hi hz0 .i64 .i64 (n : Int) (n : Int) (by omega) (Int.le_refl _) (by rw [hz2]; omega) (by omega)
    rw [hz1, show ((n : Int)).toNat = n by omega] at this
    rw [this]
    show _ = Result.ok _ (V.alloc (.cells (cellsG (noP n)).toArray 98))
    rw [noP, ← made_pages]
    rfl
  obtain ⟨C, hC⟩ : ∃ C, (cellsG (noP n)).toArray = C := ⟨_, rfl⟩
  rw [hC] at hmk
  have HC := Lib.hid hC
  have CP : ∀ V, KeptIn (· < w.heap.size) w V → Calls Tryz.prog 36 #[.pointer (some ⟨d, 0, none⟩)] V fun e w' => e = .returned (.int .i64 n) ∧ V = w' := fun V hV =>
    stPagesOf d m s b N S M V (hD.kept hV hD.ltd hD.lts hD.ltb) n hn
  have HCP := Lib.hid CP
  obtain ⟨g, r, sl, f, c⟩ := h
  unfold headV
  have HH : Hid (w.heap.size = w.heap.size) := Lib.hid rfl
  clear CP hD hn hi hz0 hz1 hz2 hC
  go_enter Tryz.func40, Tryz.ntmps40
  go_wp2_with fail
  go_region_law (first | (go_simp; go_at_call 36; refine (HCP.out _ (by first | exact ((KeptIn.refl _ w).alloc (fun _ h => h) _).drew)).mono ?_; rintro e _ ⟨rfl, rfl⟩))
  all_goals
    go_wp2_with fail
    go_ret
    obtain ⟨q1, q2, q3⟩ := alloc3 w (.cells #[.int .u64 g, .int .i64 r, .int .i64 sl, .int .i64 f, .int .i64 c] 39) (.cells C 98) (.cells #[.pointer (some ⟨d, 0, none⟩), .int .u64 g, .int .i64 r, .int .i64 sl, .int .i64 f, .int .i64 c, .int .i64 a, .slice (some ⟨w.heap.size + 1, 0, none⟩) n n] 95)
    refine ⟨_, w.heap.size + 1, rfl, ⟨?_, ?_⟩, q3, by omega, by omega⟩
    · rw [noP_length]
      exact q1
    · rw [HC.out]
      exact q2

end Go.Proofs.YtkgjmejgkffbdaaGreatDoor
