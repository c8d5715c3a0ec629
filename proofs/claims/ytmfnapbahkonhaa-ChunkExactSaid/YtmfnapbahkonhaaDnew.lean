/- disc.New, disc.Of. -/
import Derived.Test.YtmfnapbahkonhaaDisc
import Derived.Test.YtmfnapbahkonhaaArgs
import Derived.Laws.MakeOwn
import Derived.OwnWalk
import Derived.Carry
import Derived.LoopTactic
import Derived.Deep.RegionHeld3
set_option linter.unusedVariables false
namespace Go.Proofs.Ytmfnapbahkonhaa
open Go.RowKit

def zeroS : List UInt8 := List.replicate 16 0

theorem flat_zero (n : Nat) : (List.replicate n zeroS).flatten = List.replicate (16 * n) 0 := by
  induction n with
  | zero => rfl
  | succ n ih => rw [List.replicate_succ, List.flatten_cons, ih, zeroS, List.replicate_append_replicate]; congr 1; omega

theorem made_zero (n : Nat) : (madeCells (Lib.byteCells zeroS).toArray (n * 16)).toList = Lib.byteCells (List.replicate n zeroS).flatten := by
  have hz : (Lib.byteCells zeroS).toArray = (List.replicate 16 (Value.int .u8 0)).toArray := rfl
  have hr : Lib.byteCells (List.replicate (16 * n) 0) = List.replicate (16 * n) (Value.int .u8 0) := by simp [Lib.byteCells]
  rw [flat_zero, hr, hz, List.eq_replicate_iff]
  refine ⟨by simp [madeCells]; omega, fun b hb => ?_⟩
  unfold madeCells at hb
  rw [Array.toList_map, List.mem_map] at hb
  obtain ⟨i, _, rfl⟩ := hb
  have h16 : i % (List.replicate 16 (Value.int .u8 0)).toArray.size < (List.replicate 16 (Value.int .u8 0)).toArray.size := Nat.mod_lt _ (by simp)
  rw [getElem!_pos (List.replicate 16 (Value.int .u8 0)).toArray _ h16]
  simp only [List.getElem_toArray, List.getElem_replicate]

theorem infoSec : (Try.prog.info? 74).map (fun i => (i.zero, i.size, i.bytes)) = some (some (.agg (Lib.byteCells zeroS).toArray), 16, 16) := by kernel_rfl

theorem run_max2 {P : Program} {w : World} (ts : Array TypeId) (t : TypeId) (k k' : IntKind) (x y : Int) : (Builtin.max_ ts t #[.int k x, .int k' y]).run P w = .ok (.int k (max x y)) w := by
  rw [run_max_int2]
  congr 2
  split <;> omega
theorem run_min2 {P : Program} {w : World} (ts : Array TypeId) (t : TypeId) (k k' : IntKind) (x y : Int) : (Builtin.min_ ts t #[.int k x, .int k' y]).run P w = .ok (.int k (min x y)) w := by
  rw [run_min_int2]
  congr 2
  split <;> omega

attribute [local go_sem high] run_max2 run_min2

set_option maxHeartbeats 1000000 in
set_option maxRecDepth 100000 in
theorem dNew (m : Nat) (n : Int) (u : Nat) (w : World) (hu : min (max n 0) 16384 = (u : Int)) :
    Calls Try.prog 29 #[.pointer (some ⟨m, 0, none⟩), .int .i64 n] w fun e w' => ∃ d s b, e = .returned (.pointer (some ⟨d, 0, none⟩)) ∧
      IsD d m s b 0 (List.replicate u zeroS) (fun _ => none) w' ∧ KeptIn (· < w.heap.size) w w' ∧ w.heap.size ≤ d ∧ w.heap.size ≤ s ∧ w.heap.size ≤ b := by
  obtain ⟨i0, hi, hz0, hz1, hz2⟩ := info_parts infoSec
  have hmm := @run_makeMap Try.prog
  have hu2 : u ≤ 16384 := by omega
  go_enter Try.func29, Try.ntmps29
  go_wp2_with (at_make; refine wpList_make_full _ rfl _ _ 69 rfl w.heap.size 74 i0 _ 16 Try.underlying69 hi hz0 hz1 .i64 .i64 u u u rfl rfl rfl rfl (by rw [hz2]; omega) (by unfold maxLen; omega) (Nat.le_refl _) ?_; intro w1 hown hgrow)
  go_ret
  have hz := hgrow.size
  have hk1 : KeptIn (· < w.heap.size) w w1 := (KeptIn.refl _ w).grown (fun _ h => h) hgrow (by simp)
  have hlen : (Lib.byteCells (List.replicate u zeroS).flatten).length = u * 16 := by rw [Lib.byteCells_length, flat_zero]; simp; omega
  obtain ⟨cur, hs1, hs2⟩ : ∃ cur : Array Value, w1.heap[w.heap.size]? = some (.cells cur 74 (0, 0)) ∧ cur = (Lib.byteCells (List.replicate u zeroS).flatten).toArray := by
    rcases hown.2 with ⟨h1, _⟩ | ⟨g, cap, cur, h1, _, h2, _, _, h3, h4⟩
    · cases h1
    · simp only [Value.slice.injEq, Option.some.injEq, Addr.mk.injEq, and_true, true_and] at h1
      obtain ⟨rfl, rfl⟩ := h1
      refine ⟨cur, h2, ?_⟩
      rw [List.take_of_length_le (by rw [Array.length_toList, h3]; exact Nat.le_refl _)] at h4
      rw [← made_zero]
      exact Array.toList_inj.1 h4
  subst hs2
  have hlt1 : w.heap.size < w1.heap.size := (Array.getElem?_eq_some_iff.1 hs1).1
  refine ⟨w1.heap.size + 1, w.heap.size, w1.heap.size, rfl, ⟨?_, ?_, ?_, by simp [zeroS], by simpa using hu2, fun x l h => (by cases h)⟩, ?_, by omega, by omega, by omega⟩
  · rw [List.length_replicate]
    exact heap_alloc2_new _ _ _
  · rw [Lib.alloc_old _ _ _ (by simp; omega), Lib.alloc_old _ _ _ hlt1]
    exact hs1
  · exact (MapAt.new w1).block (Lib.alloc_old _ _ _ (by simp))
  · exact (hk1.alloc (fun _ h => h) _).alloc (fun _ h => h) _

/-- An image's whole sectors, u of them. -/
def secs (l : List UInt8) (u : Nat) : List (List UInt8) := (List.range u).map (nth l)

theorem secs_length (l : List UInt8) (u : Nat) : (secs l u).length = u := by simp [secs]
theorem secs_len (l : List UInt8) (u : Nat) (h : 16 * u ≤ l.length) : ∀ x ∈ secs l u, x.length = 16 := by
  intro x hx
  simp only [secs, List.mem_map, List.mem_range] at hx
  obtain ⟨i, hi, rfl⟩ := hx
  exact nth_length l i (by omega)

/-- The first j of them, zeros behind. -/
def part (l : List UInt8) (u j : Nat) : List (List UInt8) := secs l j ++ List.replicate (u - j) zeroS

theorem part_set (l : List UInt8) (u j : Nat) (h : j < u) : (part l u j).set j (nth l j) = part l u (j + 1) := by
  unfold part
  rw [List.set_append_right _ _ (by rw [secs_length]; exact Nat.le_refl _), secs_length, Nat.sub_self, show u - j = (u - (j + 1)) + 1 by omega, List.replicate_succ, List.set_cons_zero]
  simp [secs, List.range_succ]

set_option maxHeartbeats 1000000 in
set_option maxRecDepth 100000 in
theorem dOf (m : Nat) (l : List UInt8) (u : Nat) (w : World) (hl : l.length ≤ maxLen) (hu : u = min (l.length / 16) 16384) :
    Calls Try.prog 8 #[.pointer (some ⟨m, 0, none⟩), .string ⟨l.toArray⟩] w fun e w' => ∃ d s b, e = .returned (.pointer (some ⟨d, 0, none⟩)) ∧
      IsD d m s b 0 (secs l u) (fun _ => none) w' ∧ KeptIn (· < w.heap.size) w w' ∧ w.heap.size ≤ d ∧ w.heap.size ≤ s ∧ w.heap.size ≤ b := by
  have hl' := hl
  unfold maxLen at hl'
  have hlen1 : (l.length : Int) ≤ 9223372036854775807 := by omega
  have HU : Hid (min (max ((l.length : Int) / 16) 0) 16384 = (u : Int)) := Lib.hid (by omega)
  have HU2 : Hid (16 * u ≤ l.length ∧ u ≤ 16384) := Lib.hid (by omega)
  have HL := Lib.hid hl
  clear hu hl hl'
  go_enter Try.func8, Try.ntmps8
  go_wp2_with (go_at_call 29; refine (dNew m _ u _ HU.out).mono ?_)
  rintro e w1 ⟨d, s, b, rfl, h1, k1, q1, q2, q3⟩
  have H1 := Lib.hid h1; have K1 := Lib.hid k1
  clear k1
  have c1 := h1.c1
  rw [List.length_replicate] at c1
  clear h1
  go_wp2_with fail
  have HD0 : Hid (∃ W' : World, W' = w1 ∧ IsD d m s b 0 (part l u 0) (fun _ => none) W' ∧ KeptIn (· < w.heap.size) w W') := Lib.hid ⟨_, rfl, by simpa [part, secs] using H1.out, K1.out⟩
  clear H1 K1 HU c1
  go_loopw [17] (fun c wr => ∃ (j : Nat) (W' : World), W' = wr ∧ j ≤ u ∧ c = .int .i64 j ∧ Hid (IsD d m s b 0 (part l u j) (fun _ => none) W' ∧ KeptIn (· < w.heap.size) w W')) (fun c _ => u - (RowKit.intOf c).toNat)
  case atStart =>
    obtain ⟨W', rfl, h1, h2⟩ := HD0.out
    exact ⟨0, _, rfl, Nat.zero_le _, rfl, Lib.hid ⟨h1, h2⟩⟩
  case round =>
    obtain ⟨j, W, rfl, hj, rfl, HD⟩ := hrel
    clear HD0
    have e0 : (part l u j).length = u := by simp [part, secs_length]; omega
    by_cases hlt : j < u
    · have b0 : (0 : Int) ≤ (j : Int) := by omega
      have b1 : (j : Int) < (u : Int) := by omega
      have hu2 := HU2.out
      have c1 := HD.out.1.c1
      rw [e0] at c1
      have th := HD.out.1.there j (by omega)
      have hlts := HD.out.1.lts; have hltd := HD.out.1.ltd; have hds := HD.out.1.ne_ds
      obtain ⟨cs, hcs⟩ : ∃ cs, Lib.byteCells (nth l j) = cs := ⟨_, rfl⟩
      have hn : (nth l j).length = 16 := nth_length l j (by omega)
      have hl16 : cs.length = 16 := by rw [← hcs, Lib.byteCells_length, hn]
      have hu := Try.underlying74
      have hi : (Try.prog.info? 74).map (·.size) = some cs.length := by rw [← hcs]; exact secSizeL hn
      have h1 : ∀ v ∈ cs, v.oneCell' = true := by rw [← hcs]; exact Lib.byteCells_one _
      have CS : Hid (∀ V, Calls Try.prog 32 #[.string ⟨l.toArray⟩, .int .i64 j] V fun e w' => e = .returned (.agg cs.toArray) ∧ KeptIn (· < V.heap.size) V w') := Lib.hid fun V =>
        (dSecOf l j V (by omega) HL.out).mono fun e w' h => ⟨by rw [h.1, ← hcs]; rfl, h.2.1⟩
      have HCS := Lib.hid hcs
      have TH := Lib.hid th; have C1 := Lib.hid c1; have HN := Lib.hid hn
      clear hcs th e0 hn hu2
      go_wp2_with fail
      go_region_held3 (fun w' => w'.cell? ⟨d, 1, none⟩ = some (.slice (some ⟨s, 0, none⟩) u u) ∧ w'.there s (j * 16) 16)
        (first | exact ⟨C1.out, TH.out⟩ | exact ⟨(World.cell?_of_block (a := ⟨d, 1, none⟩) (hk.block d hltd)).trans C1.out, there_block TH.out (hk.block s hlts)⟩ | exact ⟨(World.cell?_of_block (a := ⟨d, 1, none⟩) (heap_setCells_other s cs _ _ d hds)).trans ((World.cell?_of_block (a := ⟨d, 1, none⟩) (hk.block d hltd)).trans C1.out), World.there_setCells (there_block TH.out (hk.block s hlts)) _ _ _⟩)
        (first | (go_at_call 32; refine (CS.out _).mono ?_; rintro e w' ⟨rfl, hk⟩))
      have hkW : KeptIn (· < W.heap.size) W w' := ⟨hk.os, hk.tape, hk.output, hk.size, hk.block⟩
      have e0 : (part l u j).length = u := by simp [part, secs_length]; omega
      have HD2 : Hid (IsD d m s b 0 (part l u (j + 1)) (fun _ => none) (w'.setCells s (j * 16) cs) ∧ KeptIn (· < w.heap.size) w (w'.setCells s (j * 16) cs)) := by
        refine Lib.hid ⟨?_, ?_⟩
        · rw [← HCS.out, ← part_set l u j hlt]
          exact (HD.out.1.kept hkW hltd hlts HD.out.1.ltb).put j (by omega) _ HN.out
        · refine KeptIn.setCells (HD.out.2.trans (hkW.mono fun k hk => Nat.lt_of_lt_of_le hk HD.out.2.size)) (by omega) _ _
      clear hk hkW HD TH C1 CS HCS HN hds hltd hlts e0 h1 hi hu hl16
      have hu2 := HU2.out.2
      go_wp2_with fail
      go_roundw
      case rel => exact ⟨j + 1, _, rfl, by omega, by go_num, HD2⟩
      case measure => simp [RowKit.intOf]; omega
    · obtain rfl : j = u := by omega
      have hend : part l j j = secs l j := by simp [part]
      rw [hend] at HD
      go_wp2_with fail
      go_ret
      exact ⟨d, s, b, rfl, HD.out.1, HD.out.2, q1, q2, q3⟩

end Go.Proofs.Ytmfnapbahkonhaa
