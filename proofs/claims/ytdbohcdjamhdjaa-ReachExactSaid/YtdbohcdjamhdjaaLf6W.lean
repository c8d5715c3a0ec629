import Derived.Test.YtdbohcdjamhdjaaV2
import Derived.RangeFuncNested
import Derived.RangeFuncBound
import Derived.RangeFuncCalls
import Derived.RangeFuncLeaves
import Derived.RangeFuncBox
import Derived.Shelf.Abstract
import Derived.Shelf.RegionOpen
import Derived.OwnWalkIn
import Derived.TacticsInMore
import Derived.LoopNIn
import Derived.LoopIn
/- slices.Backward at pairs; package leaf's Child. -/
set_option linter.unusedVariables false
namespace Go.Proofs.Ytdbohcdjamhdjaa
open Go.RowKit Go.Shelf
attribute [local go_sem] Oper.semAt_some

/-- What has come when k rounds are over, from the end on. -/
def bwd (ps : Pairs) (k : Nat) : List (Nat × (Nat × Nat)) := (List.range k).map fun j => (ps.length - 1 - j, (keyAt ps (ps.length - 1 - j), valAt ps (ps.length - 1 - j)))
theorem bwd_succ (ps : Pairs) (k : Nat) : bwd ps (k + 1) = bwd ps k ++ [(ps.length - 1 - k, (keyAt ps (ps.length - 1 - k), valAt ps (ps.length - 1 - k)))] := by simp [bwd, List.range_succ]
theorem bwd_length (ps : Pairs) (k : Nat) : (bwd ps k).length = k := by simp [bwd]

/-- The pairs lie below n₀. -/
def PsB (n₀ : Nat) (W : World) (a : Option Addr) (ps : Pairs) : Prop := 0 < ps.length → ∃ b off, a = some ⟨b, off, none⟩ ∧ b < n₀ ∧ ∀ i, i < ps.length →
  W.cell? ⟨b, off + i * 2, none⟩ = some (.int .u64 (keyAt ps i)) ∧ W.cell? ⟨b, off + i * 2 + 1, none⟩ = some (.int .u64 (valAt ps i))
theorem PsB.below {n₀ : Nat} {A B : World} {a : Option Addr} {ps : Pairs} (h : PsB n₀ A a ps) (hb : Below n₀ A B) : PsB n₀ B a ps := fun hp => by
  obtain ⟨b, off, e, hlt, hc⟩ := h hp
  exact ⟨b, off, e, hlt, fun i hi => ⟨(hb.cell (p := ⟨b, off + i * 2, none⟩) hlt).trans (hc i hi).1, (hb.cell (p := ⟨b, off + i * 2 + 1, none⟩) hlt).trans (hc i hi).2⟩⟩

/-- A place and a pair as values. -/
def encIP (x : Nat × (Nat × Nat)) : Array Value := #[.int .i64 (x.1 : Int), .agg #[.int .u64 (x.2.1 : Int), .int .u64 (x.2.2 : Int)]]

set_option maxRecDepth 100000 in
set_option maxHeartbeats 2000000 in
theorem pBack1 (F : Fence) (n : Nat) (h45 : F.fn 98) (hro : F.round = none) (hn : 1 ≤ n) (l Bs n₀ cap : Nat) (a : Option Addr) (ps : Pairs) (hlen : (ps.length : Int) ≤ 9223372036854775807) (hBs₀ : Bs < n₀) (J Jx : List (Nat × (Nat × Nat)) → World → Prop)
    (hY : ∀ pre x W, J pre W → pre.length < ps.length → YieldAt F (n - 1) Try.prog l (encIP x) W fun e W' =>
      (e = .returned (.bool true) ∧ J (pre ++ [x]) W' ∧ Below n₀ W W') ∨ (e = .returned (.bool false) ∧ Jx (pre ++ [x]) W'))
    (W : World) (hBs : W.cell? ⟨Bs, 0, none⟩ = some (.slice a ps.length cap)) (hP : PsB n₀ W a ps) (h0 : J [] W) :
    CallsIn F n Try.prog 98 #[.func (.yield l) #[] #[], .pointer (some ⟨Bs, 0, none⟩)] W fun e W' => (∃ v, e = .returned v) ∧
      ((∃ ys, ys = bwd ps ps.length ∧ J ys W') ∨ (∃ pre, (∃ k, k < ps.length ∧ pre = bwd ps (k + 1)) ∧ Jx pre W')) := by
  refine callsIn_of_wp Try.func98 rfl h45 ?_ hro
  simp only [Try.ntmps98, List.size_toArray, List.length_cons, List.length_nil, Nat.reduceAdd, Nat.reduceSub, Array.replicate_succ, Array.replicate_zero, List.push_toArray, List.append_toArray, List.nil_append, List.cons_append]
  obtain ⟨m, hm⟩ : ∃ m, ps.length = m := ⟨_, rfl⟩
  rw [hm] at hBs hlen
  have HM := Lib.hid hm
  have HP := Lib.hid hP
  have HY := Lib.hid hY
  clear hm hP hY
  have hmm : wrap64 ((m : Int) - 1) = (m : Int) - 1 := by unfold wrap64; omega
  gi_wp2
  gi_loopw [3] (fun i wr => ∃ k : Nat, k ≤ m ∧ i = .int .i64 ((m : Int) - 1 - (k : Int)) ∧ J (bwd ps k) wr ∧ Below n₀ W wr) (fun i _ => (intOf i + 1).toNat)
  case atStart => exact ⟨0, Nat.zero_le _, by simp, h0, Below.refl _ _⟩
  case round =>
    obtain ⟨k, hk, rfl, hJs, hnx⟩ := hrel
    have hB' : wr.cell? ⟨Bs, 0, none⟩ = some (.slice a m cap) := (hnx.cell (p := ⟨Bs, 0, none⟩) hBs₀).trans hBs
    by_cases hlt : k < m
    · obtain ⟨i, hi⟩ : ∃ i, m - 1 - k = i := ⟨_, rfl⟩
      have hii : (m : Int) - 1 - (k : Int) = (i : Int) := by omega
      rw [hii]
      have i0 : (0 : Int) ≤ (i : Int) := by omega
      have i1 : (i : Int) < (m : Int) := by omega
      obtain ⟨b, off, rfl, hb, hc⟩ := (HP.out.below hnx) (by rw [HM.out]; omega)
      obtain ⟨e1, e2⟩ := hc i (by rw [HM.out]; omega)
      have hsn := bwd_succ ps k
      rw [HM.out, hi] at hsn
      obtain ⟨fn, tmps, assign, body, hy, hR⟩ := HY.out _ (i, (keyAt ps i, valAt ps i)) wr hJs (by rw [bwd_length, HM.out]; exact hlt)
      unfold encIP at hy
      dsimp only at hy
      rw [← hsn] at hR
      have hw : wrap64 ((i : Int) - 1) = (i : Int) - 1 := by unfold wrap64; omega
      clear hc hi
      gi_wp2
      refine hR.mono ?_
      rintro e W3 (⟨rfl, hJ3, hk3⟩ | ⟨rfl, hJx3⟩)
      · gi_wp2
        go_roundw
        case rel => exact ⟨k + 1, by omega, by first | (simp; done) | (simp; omega), hJ3, hnx.trans hk3⟩
        case measure => simp [intOf] <;> omega
      · gi_wp2
        refine bodyPost_ret (results_none rfl _ _ _) rfl ?_
        exact ⟨⟨_, rfl⟩, .inr ⟨_, ⟨k, by rw [HM.out]; exact hlt, rfl⟩, hJx3⟩⟩
    · obtain rfl : k = m := by omega
      have hii : (k : Int) - 1 - (k : Int) = -1 := by omega
      rw [hii]
      gi_wp2
      go_end0
      exact ⟨⟨_, rfl⟩, .inl ⟨_, by rw [HM.out], hJs⟩⟩

set_option maxHeartbeats 1000000 in
theorem pBack (F : Fence) (n : Nat) (h29 : F.fn 89) (hro : F.round = none) (a : Option Addr) (len cap : Nat) (w : World) :
    CallsIn F n Try.prog 89 #[.slice a len cap] w fun e w' => e = .returned (.func (.func 98) #[] #[.pointer (some ⟨w.heap.size, 0, none⟩)]) ∧ w' = w.alloc (.cells #[.slice a len cap] 25) := by
  refine callsIn_of_wp Try.func89 rfl h29 ?_ hro
  simp only [Try.ntmps89, List.size_toArray, List.length_cons, List.length_nil, Nat.reduceAdd, Nat.reduceSub, Array.replicate_succ, Array.replicate_zero, List.push_toArray, List.append_toArray, List.nil_append, List.cons_append]
  gi_wp2
  go_ret
  exact ⟨rfl, rfl⟩

theorem pBack_stops (F : Fence) (n : Nat) (h45 : F.fn 98) (hro : F.round = none) (hn : 1 ≤ n) (Bs n₀ cap : Nat) (a : Option Addr) (ps : Pairs) (hlen : (ps.length : Int) ≤ 9223372036854775807) (w : World) (hBs : Bs < n₀) (hn₀ : n₀ ≤ w.heap.size)
    (hc : w.cell? ⟨Bs, 0, none⟩ = some (.slice a ps.length cap)) (hP : PsB n₀ w a ps) :
    SeqStopsK F n Try.prog 98 #[.pointer (some ⟨Bs, 0, none⟩)] encIP (Below n₀) (fun ys => ys = bwd ps ps.length) (fun pre => ∃ k, k < ps.length ∧ pre = bwd ps (k + 1)) ps.length w := fun l J Jx W hW _ _ hY h0 =>
  pBack1 F n h45 hro hn l Bs n₀ cap a ps hlen hBs J Jx hY W ((hW.cell (p := ⟨Bs, 0, none⟩) (Nat.lt_of_lt_of_le hBs hn₀)).trans hc) (hP.below (hW.mono hn₀)) h0

theorem bwd_mem (ps : Pairs) (q j : Nat) (hq : q ≤ ps.length) (hj : j < ps.length) (h : ps.length - q ≤ j) : (j, (keyAt ps j, valAt ps j)) ∈ bwd ps q := by
  unfold bwd
  rw [List.mem_map]
  exact ⟨ps.length - 1 - j, List.mem_range.2 (by omega), by rw [show ps.length - 1 - (ps.length - 1 - j) = j by omega]⟩

/-- Each key is above k. -/
def AboveK (k : Nat) (pre : List (Nat × (Nat × Nat))) : Prop := ∀ x ∈ pre, k < x.2.1
theorem AboveK.snoc {k : Nat} {pre : List (Nat × (Nat × Nat))} {x : Nat × (Nat × Nat)} (h : AboveK k pre) (hx : k < x.2.1) : AboveK k (pre ++ [x]) := by
  intro y hy
  rcases List.mem_append.1 hy with h1 | h1
  · exact h y h1
  · have : y = x := by simpa using h1
    rw [this]; exact hx

set_option maxRecDepth 100000 in
set_option maxHeartbeats 4000000 in
theorem lfChild_in (F : Fence) (n : Nat) (h15 : F.fn 72) (h29 : F.fn 89) (h45 : F.fn 98) (hro : F.round = none) (hn : 3 ≤ n) (lv : Int) (a : Option Addr) (cap : Nat) (ps : Pairs) (k : Nat) (w : World) (h : IsPs w a ps) (hr : rises ps = true) :
    CallsIn F n Try.prog 72 #[leafV lv a ps.length cap, .int .u64 k] w fun e W' => e = .returned (.int .i64 ((uptoK ps k : Int) - 1)) ∧ Below w.heap.size w W' := by
  have h1 : 1 ≤ n := by omega
  refine callsIn_of_wp_marks Try.func72 rfl h15 ?_ hro
  simp only [Try.ntmps72, leafV, List.size_toArray, List.length_cons, List.length_nil, Nat.reduceAdd, Nat.reduceSub, Array.replicate_succ, Array.replicate_zero, List.push_toArray, List.append_toArray, List.nil_append, List.cons_append]
  have hlen : (ps.length : Int) ≤ 9223372036854775807 := by have := h.len; unfold maxLen at this; omega
  gi_wp2_with (gi_at_call 89; refine (pBack F (n - 1) h29 hro _ _ _ _).mono ?_; rintro e w' ⟨rfl, rfl⟩)
  obtain ⟨m, hm⟩ : ∃ m, ps.length = m := ⟨_, rfl⟩
  obtain ⟨B, hB⟩ : ∃ B, w.heap.size = B := ⟨_, rfl⟩
  have hP0 : PsB w.heap.size w a ps := fun hp => by
    obtain ⟨b, off, e, hlt, hc⟩ := h.cells hp
    exact ⟨b, off, e, hlt, hc⟩
  obtain ⟨W0, hW0⟩ : ∃ W0, (((w.alloc (.cells #[.int .i64 lv, .slice a m cap] 27)).alloc (.cells #[.int .u64 k] 80)).alloc (.cells #[.int .i64 0] 3)).alloc (.cells #[.slice a m cap] 25) = W0 := ⟨_, rfl⟩
  have hsz : W0.heap.size = B + 4 := by rw [← hW0, ← hB]; simp
  have hB0 : Below w.heap.size w W0 := by
    rw [← hW0]
    exact ((((Below.refl _ w).alloc (Nat.le_refl _) _).alloc (by simp) _).alloc (by simp; omega) _).alloc (by simp; omega) _
  have bK : W0.heap[B + 1]? = some (.cells #[.int .u64 k] 80 (0, 0)) := by
    rw [← hW0]
    have e1 := heap_alloc_new (w.alloc (.cells #[.int .i64 lv, .slice a m cap] 27)) (.cells #[.int .u64 k] 80)
    rw [World.size_alloc, hB] at e1
    exact (Lib.alloc_old _ _ _ (by simp; omega)).trans ((Lib.alloc_old _ _ _ (by simp; omega)).trans e1)
  have bR : W0.heap[B + 1 + 1]? = some (.cells #[.int .i64 0] 3 (0, 0)) := by
    rw [← hW0]
    have e1 := heap_alloc_new ((w.alloc (.cells #[.int .i64 lv, .slice a m cap] 27)).alloc (.cells #[.int .u64 k] 80)) (.cells #[.int .i64 0] 3)
    rw [World.size_alloc, World.size_alloc, hB] at e1
    exact (Lib.alloc_old _ _ _ (by simp; omega)).trans e1
  have bS : W0.heap[B + 1 + 1 + 1]? = some (.cells #[.slice a m cap] 25 (0, 0)) := by
    rw [← hW0]
    have e1 := heap_alloc_new (((w.alloc (.cells #[.int .i64 lv, .slice a m cap] 27)).alloc (.cells #[.int .u64 k] 80)).alloc (.cells #[.int .i64 0] 3)) (.cells #[.slice a m cap] 25)
    rw [World.size_alloc, World.size_alloc, World.size_alloc, hB] at e1
    exact e1
  have cK : W0.cell? ⟨B + 1, 0, none⟩ = some (.int .u64 k) := by simp [World.cell?, bK]
  have cR : W0.cell? ⟨B + 1 + 1, 0, none⟩ = some (.int .i64 0) := by simp [World.cell?, bR]
  have fR : W0.frozen? ⟨B + 1 + 1, 0, none⟩ = false := by simp [World.frozen?, bR]
  have cS : W0.cell? ⟨B + 1 + 1 + 1, 0, none⟩ = some (.slice a ps.length cap) := by rw [hm]; simp [World.cell?, bS]
  have hP : PsB W0.heap.size W0 a ps := by
    have := hP0.below hB0
    intro hp
    obtain ⟨b, off, e, hlt, hc⟩ := this hp
    exact ⟨b, off, e, by omega, hc⟩
  have hup : ∀ q, q ≤ m → AboveK k (bwd ps q) → ∀ j, m - q ≤ j → j < m → k < keyAt ps j := fun q hq hx j h1 h2 =>
    hx _ (bwd_mem ps q j (by omega) (by omega) (by omega))
  have HUP := Lib.hid hup
  have HR := Lib.hid (And.intro hr hm)
  rw [hm] at hlen
  have hstops := pBack_stops F (n - 1) h45 hro (by omega) (B + 1 + 1 + 1) W0.heap.size cap a ps (by rw [hm]; exact hlen) W0 (by omega) (Nat.le_refl _) cS hP
  rw [hm] at hstops ⊢
  simp only [hB] at hW0 ⊢
  rw [hW0]
  have HSZ := Lib.hid hsz
  have HBB := Lib.hid hB
  have HB0 : Hid (Below B w W0) := Lib.hid (hB ▸ hB0)
  have hB4 : ∀ j, j ≤ B + 1 + 1 → j < W0.heap.size := fun j hj => by omega
  have HB4 := Lib.hid hB4
  clear hup hr hP hP0 bK bR bS h hW0 hB0 hB4 hsz
  clear hB
  refine wpIn_rangeFunc_ownH hro h1 (gf := 98) (lb := #[.pointer (some ⟨B + 1 + 1 + 1, 0, none⟩)]) rfl h45 (enters_of Try.func98 (by kernel_rfl) rfl)
    hstops belowK_t (belowK_b (Nat.le_refl _)) (Below.refl _ _) (fun _ => rfl)
    (fun pre W => AboveK k pre ∧ Below W0.heap.size W0 W)
    (fun c pre W => (c = .ret ∧ ∃ ini last, pre = ini ++ [last] ∧ AboveK k ini ∧ last.2.1 ≤ k ∧ W.cell? ⟨B + 1 + 1, 0, none⟩ = some (.int .i64 (last.1 : Int))) ∧ Below B w W)
    (OwnFrom.and (ownFrom_pure _ _) (ownFrom_below (Nat.le_refl _) (Nat.le_refl _)))
    (fun c => OwnFrom.and (Own.from (fun s A B row hs hg hr => by obtain ⟨hc, ini, last, e1, e2, e3, e4⟩ := hs; exact ⟨hc, ini, last, e1, e2, e3, cell_kept e4 hg hr⟩) _) (ownFrom_below (Nat.le_of_eq HBB.out.symm) (Nat.le_of_lt (HB4.out B (by omega)))))
    ⟨(fun x hx => by cases hx), Below.refl _ _⟩
    (fun x a' W => ∃ Bx, W.cell? ⟨Bx, 0, none⟩ = some (.int .u64 (x.2.1 : Int)) ∧ W.cell? ⟨Bx, 1, none⟩ = some (.int .u64 (x.2.2 : Int)) ∧ a' = { tmps := #[.agg #[.int .i64 lv, .slice a m cap], .int .u64 (k : Int), .pointer (some ⟨B, 0, none⟩), .pointer (some ⟨B + 1, 0, none⟩), .pointer (some ⟨B + 1 + 1, 0, none⟩), .int .i64 (x.1 : Int), .pointer (some ⟨Bx, 0, none⟩), .pointer (some ⟨B, 1, none⟩), .slice a m cap, .func (.func 98) #[] #[.pointer (some ⟨B + 1 + 1 + 1, 0, none⟩)], .int .i64 (x.1 : Int), .agg #[.int .u64 (x.2.1 : Int), .int .u64 (x.2.2 : Int)], undef, undef, undef, undef, undef], defers := [] })
    (fun x a' _ X Y row hs hg hr => by obtain ⟨Bx, h1, h2, h3⟩ := hs; exact ⟨Bx, cell_kept h1 hg (fun r e => (hr r e).2), cell_kept h2 hg (fun r e => (hr r e).2), h3⟩)
    ?assign ?body ?done ?stop
  case assign =>
    rintro l pre x W K ⟨hp, hB1⟩ hK
    unfold encIP
    gi_wp2
    have hb := heap_alloc_new W (.cells #[.int .u64 (x.2.1 : Int), .int .u64 (x.2.2 : Int)] 82)
    exact hK _ _ ((KeepsOthers.alloc _ _).from _) ((Below.refl _ W).alloc hB1.size _) ⟨hp, hB1.alloc hB1.size _⟩ ⟨W.heap.size, by rw [cell_of_row _ _ 0 _ _ _ hb]; rfl, by rw [cell_of_row _ _ 1 _ _ _ hb]; rfl, rfl⟩
  case body =>
    rintro l pre x a' W hl ⟨r, hr⟩ ⟨hp, hB1⟩ ⟨Bx, x0, x1, rfl⟩ hlt
    have cK' := (hB1.cell (p := ⟨B + 1, 0, none⟩) (HB4.out (B + 1) (by omega))).trans cK
    have cR' := (hB1.cell (p := ⟨B + 1 + 1, 0, none⟩) (HB4.out (B + 1 + 1) (Nat.le_refl _))).trans cR
    have fR' := (World.frozen?_of_block (a := ⟨B + 1 + 1, 0, none⟩) (hB1.block (B + 1 + 1) (HB4.out (B + 1 + 1) (Nat.le_refl _)))).trans fR
    by_cases hx : (x.2.1 : Int) ≤ (k : Int)
    · gi_wp2
      exact ⟨(KeepsOthers.setCell _ _ _).from _, ⟨rfl, pre, x, rfl, hp, by omega, World.cell?_setCell_same' _ _ _ (by rw [cR']; rfl)⟩, (HB0.out.trans (hB1.mono (Nat.le_of_lt (HB4.out B (by omega))))).setCell (p := ⟨B + 1 + 1, 0, none⟩) (by simp; omega) _⟩
    · have hx' : (k : Int) < (x.2.1 : Int) := by omega
      gi_wp2
      exact ⟨KeepsFrom.refl _ _, Below.refl _ _, ⟨hp.snoc (by omega), hB1⟩⟩
  case done =>
    rintro D ys W hD rfl ⟨hp, hB1⟩ hK
    have cR' := (hB1.cell (p := ⟨B + 1 + 1, 0, none⟩) (HB4.out (B + 1 + 1) (Nat.le_refl _))).trans cR
    have fR' := (World.frozen?_of_block (a := ⟨B + 1 + 1, 0, none⟩) (hB1.block (B + 1 + 1) (HB4.out (B + 1 + 1) (Nat.le_refl _)))).trans fR
    have hu : uptoK ps k = 0 := upto_at HR.out.1 (Nat.zero_le _) (fun h => absurd h (by omega)) fun j h1 h2 => HUP.out m (Nat.le_refl _) hp j (by omega) (by rw [HR.out.2] at h2; exact h2)
    have hBW : Below B w W := HB0.out.trans (hB1.mono (Nat.le_of_lt (HB4.out B (by omega))))
    gi_wp2
    have hK' := (KeepsOthers.setCell W ⟨B + 1 + 1, 0, none⟩ (.int .i64 (-1))).same D _ hK rfl
    refine ⟨by simp, .inl ⟨_, _, rfl, run_takeDeferred hK', ?_⟩⟩
    have hc5 := cell_kept (World.cell?_setCell_same' W ⟨B + 1 + 1, 0, none⟩ (.int .i64 (-1)) (by rw [cR']; rfl)) (grownBy_putObj' _ D (.deferred none)) (fun r e => by cases e; exact ⟨_, hK', rfl⟩)
    refine ⟨.int .i64 (-1), ?_, ⟨by rw [hu]; rfl, HBB.out ▸ (hBW.setCell (p := ⟨B + 1 + 1, 0, none⟩) (by simp; omega) _).trans (belowK_b (w := w) (Nat.le_of_eq HBB.out.symm) _ D _ _ (by have := HB4.out B (by omega); have := HBB.out; omega) hK' rfl rfl)⟩⟩
    simp [results, Try.f72, go_sem, hc5]
  case stop =>
    rintro D c pre W hD ⟨q, hq, rfl⟩ ⟨⟨rfl, ini, last, e1, e2, e3, hcr⟩, hB1⟩ hK
    gi_wp2
    refine ⟨by simp, .inl ⟨_, _, rfl, run_takeDeferred hK, ?_⟩⟩
    have hc5 := cell_kept hcr (grownBy_putObj' _ D (.deferred none)) (fun r e => by cases e; exact ⟨_, hK, rfl⟩)
    rw [bwd_succ] at e1
    obtain ⟨rfl, e5⟩ := List.append_inj' e1 rfl
    obtain rfl : (ps.length - 1 - q, (keyAt ps (ps.length - 1 - q), valAt ps (ps.length - 1 - q))) = last := by simpa using e5
    rw [HR.out.2] at hcr hc5 e3
    have hu : uptoK ps k = m - 1 - q + 1 := upto_at HR.out.1 (by rw [HR.out.2]; omega) (fun _ => e3) fun j h1 h2 => HUP.out q (by omega) e2 j (by omega) (by rw [HR.out.2] at h2; exact h2)
    refine ⟨.int .i64 ((m - 1 - q : Nat) : Int), ?_, ⟨by rw [hu]; congr 2; omega, HBB.out ▸ hB1.trans (belowK_b (w := w) (Nat.le_of_eq HBB.out.symm) W D _ _ (by have := HB4.out B (by omega); have := HBB.out; omega) hK rfl rfl)⟩⟩
    simp [results, Try.f72, go_sem, hc5]

theorem lfChild (lv : Int) (a : Option Addr) (cap : Nat) (ps : Pairs) (k : Nat) (w : World) (h : IsPs w a ps) (hr : rises ps = true) :
    Calls Try.prog 72 #[leafV lv a ps.length cap, .int .u64 k] w fun e w' => e = .returned (.int .i64 ((uptoK ps k : Int) - 1)) ∧ KeptIn (· < w.heap.size) w w' :=
  (callsIn_wide.1 (lfChild_in Fence.wide 3 trivial trivial trivial rfl (by omega) lv a cap ps k w h hr)).mono fun e w' ⟨he, hb⟩ => ⟨he, .of_below hb fun _ h => h⟩

end Go.Proofs.Ytdbohcdjamhdjaa
