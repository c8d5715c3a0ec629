import Derived.Test.YtkgjmejgkffbdaaGreatDoorRef7cK
import Derived.Test.YtkgjmejgkffbdaaGreatDoorJ13
/- The reference of layer 7 (tierceref07): New. -/
set_option linter.unusedVariables false
namespace Go.Proofs.YtkgjmejgkffbdaaGreatDoor
open Go.RowKit

theorem infoLeaf7 : (Tryz.prog.info? 47).map (fun i => (i.zero, i.size, i.bytes)) = some (some (.agg #[.int .i64 0, .slice none 0 0]), 2, 32) := by kernel_rfl

theorem made_leafs (n : Nat) : madeCells #[.int .i64 0, .slice none 0 0] (n * 2) = (cellsL (List.replicate n none)).toArray := by
  have hl : (cellsL (List.replicate n none)).length = n * 2 := by rw [cellsL_length, List.length_replicate]
  apply Array.ext'
  apply List.ext_getElem?
  intro j
  by_cases hj : j < n * 2
  · have hq : j / 2 < (List.replicate n (none : Option Nat)).length := by rw [List.length_replicate]; omega
    obtain ⟨h1, h2⟩ := cellsL_at (List.replicate n none) (j / 2) hq
    have h3 : (List.replicate n (none : Option Nat)).getD (j / 2) none = none := by
      rw [List.getD_eq_getElem?_getD, List.getElem?_replicate]
      split <;> rfl
    rw [h3] at h2
    unfold madeCells
    rw [Array.toList_map, List.getElem?_map, Array.toList_range, List.getElem?_range hj]
    show some _ = (cellsL (List.replicate n none))[j]?
    rcases Nat.mod_two_eq_zero_or_one j with e | e
    · rw [show j = j / 2 * 2 by omega, h1]
      simp
    · rw [show j = j / 2 * 2 + 1 by omega, h2]
      simp [Nat.add_mod, nodV]
  · rw [List.getElem?_eq_none (by rw [madeCells]; simp; omega), List.getElem?_eq_none (by show (cellsL _).length ≤ _; rw [hl]; omega)]

section
variable (w : World) (o0 o1 o2 o3 o4 : Obj)
theorem al7_1 : (((((w.alloc o0).alloc o1).alloc o2).alloc o3).alloc o4).drew.heap[w.heap.size + 1]? = some o1 := by
  show (((((w.alloc o0).alloc o1).alloc o2).alloc o3).alloc o4).heap[w.heap.size + 1]? = some o1
  rw [Lib.alloc_old _ _ _ (by simp only [World.size_alloc]; omega), Lib.alloc_old _ _ _ (by simp only [World.size_alloc]; omega), Lib.alloc_old _ _ _ (by simp only [World.size_alloc]; omega)]
  have := World.alloc_heap_new (w.alloc o0) o1
  rwa [World.size_alloc] at this
theorem al7_2 : (((((w.alloc o0).alloc o1).alloc o2).alloc o3).alloc o4).drew.heap[w.heap.size + 1 + 1]? = some o2 := by
  show (((((w.alloc o0).alloc o1).alloc o2).alloc o3).alloc o4).heap[w.heap.size + 1 + 1]? = some o2
  rw [Lib.alloc_old _ _ _ (by simp only [World.size_alloc]; omega), Lib.alloc_old _ _ _ (by simp only [World.size_alloc]; omega)]
  have := World.alloc_heap_new ((w.alloc o0).alloc o1) o2
  rwa [World.size_alloc, World.size_alloc] at this
theorem al7_3 : (((((w.alloc o0).alloc o1).alloc o2).alloc o3).alloc o4).drew.heap[w.heap.size + 1 + 1 + 1]? = some o3 := by
  show (((((w.alloc o0).alloc o1).alloc o2).alloc o3).alloc o4).heap[w.heap.size + 1 + 1 + 1]? = some o3
  rw [Lib.alloc_old _ _ _ (by simp only [World.size_alloc]; omega)]
  have := World.alloc_heap_new (((w.alloc o0).alloc o1).alloc o2) o3
  rwa [World.size_alloc, World.size_alloc, World.size_alloc] at this
theorem al7_4 : (((((w.alloc o0).alloc o1).alloc o2).alloc o3).alloc o4).drew.heap[w.heap.size + 1 + 1 + 1 + 1]? = some o4 := by
  show (((((w.alloc o0).alloc o1).alloc o2).alloc o3).alloc o4).heap[w.heap.size + 1 + 1 + 1 + 1]? = some o4
  have := World.alloc_heap_new ((((w.alloc o0).alloc o1).alloc o2).alloc o3) o4
  rwa [World.size_alloc, World.size_alloc, World.size_alloc, World.size_alloc] at this
theorem al7_k : KeptIn (· < w.heap.size) w (((((w.alloc o0).alloc o1).alloc o2).alloc o3).alloc o4).drew :=
  ((((((KeptIn.refl _ w).alloc (fun _ h => h) o0).alloc (fun _ h => h) o1).alloc (fun _ h => h) o2).alloc (fun _ h => h) o3).alloc (fun _ h => h) o4).drew
end

set_option maxHeartbeats 2000000 in
set_option maxRecDepth 100000 in
theorem r7New (n : Nat) (hn : n ≤ 512) (h : Hd) (w : World) :
    Calls Tryz.prog 10 #[.int .i64 (n : Int), headV h] w fun e w' => ∃ R : R7, e = .returned (.pointer (some ⟨R.u, 0, none⟩)) ∧ IsR7 R n (fun _ => false) (fun _ => false) (fun _ => none) h w' ∧ KeptIn (· < w.heap.size) w w' ∧ ∀ j, R.has j → w.heap.size ≤ j := by
  obtain ⟨i0, hi, hz0, hz1, hz2⟩ := info_parts infoBool
  obtain ⟨i1, li, lz0, lz1, lz2⟩ := info_parts infoLeaf7
  have hmk : ∀ V, (Instr.makeSlice 59 (.int .i64 (n : Int)) (.int .i64 (n : Int))).run Tryz.prog V = .ok (.slice (some ⟨V.heap.size, 0, none⟩) n n) (V.alloc (.cells ((blL n fun _ => false).map Value.bool).toArray 4)) := fun V => by
    have := run_make (P := Tryz.prog) V 59 4 i0 _ Tryz.underlying59 hi hz0 .i64 .i64 (n : Int) (n : Int) (by omega) (Int.le_refl _) (by rw [hz2]; omega) (by omega)
    rw [hz1, show ((n : Int)).toNat = n by omega] at this
    rw [this]
    show _ = Result.ok _ (V.alloc (.cells ((blL n fun _ => false).map Value.bool).toArray 4))
    rw [blL_false, List.map_replicate, ← made_bool]
    simp
    rfl
  have hml : ∀ V, (Instr.makeSlice 60 (.int .i64 (n : Int)) (.int .i64 (n : Int))).run Tryz.prog V = .ok (.slice (some ⟨V.heap.size, 0, none⟩) n n) (V.alloc (.cells (cellsL (ndL n fun _ => none)).toArray 47)) := fun V => by
    have := run_make (P := Tryz.prog) V 60 47 i1 _ Tryz.underlying60 li lz0 .i64 .i64 (n : Int) (n : Int) (by omega) (Int.le_refl _) (by rw [lz2]; omega) (by omega)
    rw [lz1, show ((n : Int)).toNat = n by omega] at this
    rw [this]
    show _ = Result.ok _ (V.alloc (.cells (cellsL (ndL n fun _ => none)).toArray 47))
    rw [show ndL n (fun _ => none) = List.replicate n none from by rw [List.eq_replicate_iff]; exact ⟨ndL_length _ _, fun b hb => by simp only [ndL, List.mem_map] at hb; obtain ⟨_, _, rfl⟩ := hb; rfl⟩, ← made_leafs]
    rfl
  obtain ⟨C, hC⟩ : ∃ C, ((blL n fun _ => false).map Value.bool).toArray = C := ⟨_, rfl⟩
  obtain ⟨D, hD⟩ : ∃ D, (cellsL (ndL n fun _ => none)).toArray = D := ⟨_, rfl⟩
  rw [hC] at hmk
  rw [hD] at hml
  have HC := Lib.hid (And.intro hC hD)
  obtain ⟨g, r, sl, f, c⟩ := h
  unfold headV
  clear hn hi hz0 hz1 hz2 li lz0 lz1 lz2 hC hD
  go_enter Tryz.func10, Tryz.ntmps10
  go_wp2_with fail
  go_region
  all_goals
    go_wp2_with fail
    go_ret
    first
      | (refine ⟨⟨w.heap.size + 1 + 1 + 1 + 1, w.heap.size + 1, w.heap.size + 1 + 1, w.heap.size + 1 + 1 + 1⟩, rfl, ⟨al7_4 _ _ _ _ _ _, ?_, ?_, ?_, by dsimp only; omega⟩, al7_k _ _ _ _ _ _, by rintro j (rfl | rfl | rfl | rfl) <;> simp <;> omega⟩ <;> (first | (unfold BlRow; rw [HC.out.1]) | rw [HC.out.2]) <;> (first | exact al7_1 _ _ _ _ _ _ | exact al7_2 _ _ _ _ _ _ | exact al7_3 _ _ _ _ _ _))
      | (refine ⟨⟨w.heap.size + 1 + 1 + 1 + 1, w.heap.size + 1, w.heap.size + 1 + 1 + 1, w.heap.size + 1 + 1⟩, rfl, ⟨al7_4 _ _ _ _ _ _, ?_, ?_, ?_, by dsimp only; omega⟩, al7_k _ _ _ _ _ _, by rintro j (rfl | rfl | rfl | rfl) <;> simp <;> omega⟩ <;> (first | (unfold BlRow; rw [HC.out.1]) | rw [HC.out.2]) <;> (first | exact al7_1 _ _ _ _ _ _ | exact al7_2 _ _ _ _ _ _ | exact al7_3 _ _ _ _ _ _))
      | (refine ⟨⟨w.heap.size + 1 + 1 + 1 + 1, w.heap.size + 1 + 1, w.heap.size + 1, w.heap.size + 1 + 1 + 1⟩, rfl, ⟨al7_4 _ _ _ _ _ _, ?_, ?_, ?_, by dsimp only; omega⟩, al7_k _ _ _ _ _ _, by rintro j (rfl | rfl | rfl | rfl) <;> simp <;> omega⟩ <;> (first | (unfold BlRow; rw [HC.out.1]) | rw [HC.out.2]) <;> (first | exact al7_1 _ _ _ _ _ _ | exact al7_2 _ _ _ _ _ _ | exact al7_3 _ _ _ _ _ _))
      | (refine ⟨⟨w.heap.size + 1 + 1 + 1 + 1, w.heap.size + 1 + 1, w.heap.size + 1 + 1 + 1, w.heap.size + 1⟩, rfl, ⟨al7_4 _ _ _ _ _ _, ?_, ?_, ?_, by dsimp only; omega⟩, al7_k _ _ _ _ _ _, by rintro j (rfl | rfl | rfl | rfl) <;> simp <;> omega⟩ <;> (first | (unfold BlRow; rw [HC.out.1]) | rw [HC.out.2]) <;> (first | exact al7_1 _ _ _ _ _ _ | exact al7_2 _ _ _ _ _ _ | exact al7_3 _ _ _ _ _ _))
      | (refine ⟨⟨w.heap.size + 1 + 1 + 1 + 1, w.heap.size + 1 + 1 + 1, w.heap.size + 1, w.heap.size + 1 + 1⟩, rfl, ⟨al7_4 _ _ _ _ _ _, ?_, ?_, ?_, by dsimp only; omega⟩, al7_k _ _ _ _ _ _, by rintro j (rfl | rfl | rfl | rfl) <;> simp <;> omega⟩ <;> (first | (unfold BlRow; rw [HC.out.1]) | rw [HC.out.2]) <;> (first | exact al7_1 _ _ _ _ _ _ | exact al7_2 _ _ _ _ _ _ | exact al7_3 _ _ _ _ _ _))
      | (refine ⟨⟨w.heap.size + 1 + 1 + 1 + 1, w.heap.size + 1 + 1 + 1, w.heap.size + 1 + 1, w.heap.size + 1⟩, rfl, ⟨al7_4 _ _ _ _ _ _, ?_, ?_, ?_, by dsimp only; omega⟩, al7_k _ _ _ _ _ _, by rintro j (rfl | rfl | rfl | rfl) <;> simp <;> omega⟩ <;> (first | (unfold BlRow; rw [HC.out.1]) | rw [HC.out.2]) <;> (first | exact al7_1 _ _ _ _ _ _ | exact al7_2 _ _ _ _ _ _ | exact al7_3 _ _ _ _ _ _))

end Go.Proofs.YtkgjmejgkffbdaaGreatDoor
