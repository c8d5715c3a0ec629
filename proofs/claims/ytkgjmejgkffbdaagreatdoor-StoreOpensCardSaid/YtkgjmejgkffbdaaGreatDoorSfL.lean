import Derived.Test.YtkgjmejgkffbdaaGreatDoorShL
import Derived.Test.YtkgjmejgkffbdaaGreatDoorHbL
/- A store made: storeOf, Format, Open. -/
set_option linter.unusedVariables false
namespace Go.Proofs.YtkgjmejgkffbdaaGreatDoor
open Go.RowKit

theorem infoPage : (Tryz.prog.info? 98).map (fun i => (i.zero, i.size, i.bytes)) = some (some (.agg #[.int .i64 0, .string ⟨#[]⟩]), 2, 24) := by kernel_rfl

theorem made_pages (n : Nat) : madeCells #[.int .i64 0, .string ⟨#[]⟩] (n * 2) = (cellsG (List.replicate n pag0)).toArray := by
  have hl : (cellsG (List.replicate n pag0)).length = n * 2 := by rw [cellsG_length, List.length_replicate]
  have hst : ∀ j, j < n → stOf (List.replicate n pag0) j = 0 ∧ txOf (List.replicate n pag0) j = [] := fun j hj => by
    constructor
    · rw [stOf_get _ _ (by simpa using hj)]; simp [pag0]
    · rw [txOf_get _ _ (by simpa using hj)]; simp [pag0]
  apply Array.ext
  · simp [madeCells, hl]
  · intro i h1 h2
    have hi : i < n * 2 := by simpa [madeCells] using h1
    have hj : i / 2 < n := by omega
    obtain ⟨e1, e2⟩ := cellsG_at (List.replicate n pag0) (i / 2) (by simpa using hj)
    rw [(hst _ hj).1] at e1
    rw [(hst _ hj).2] at e2
    have h3 : (madeCells #[.int .i64 0, .string ⟨#[]⟩] (n * 2))[i] = (#[.int .i64 0, .string ⟨#[]⟩] : Array Value)[i % 2]! := by simp [madeCells]
    rw [h3]
    rcases Nat.mod_two_eq_zero_or_one i with e | e
    · rw [e]
      rw [show i / 2 * 2 = i by omega] at e1
      rw [List.getElem_toArray]
      rw [List.getElem?_eq_getElem (by rw [hl]; exact hi)] at e1
      exact (Option.some.inj e1).symm
    · rw [e]
      rw [show i / 2 * 2 + 1 = i by omega] at e2
      rw [List.getElem_toArray]
      rw [List.getElem?_eq_getElem (by rw [hl]; exact hi)] at e2
      exact (Option.some.inj e2).symm

/-- Pages of which none is committed or new. -/
def noP (n : Nat) : List Pag := List.replicate n pag0
theorem noP_length (n : Nat) : (noP n).length = n := by simp [noP]
theorem noP_st (n q : Nat) : stOf (noP n) q = 0 := by
  by_cases h : q < n
  · rw [stOf_get _ _ (by rw [noP_length]; exact h)]; simp [noP, pag0]
  · exact stOf_ge _ _ (by rw [noP_length]; omega)

theorem alloc3 (w : World) (t1 t2 t3 : Obj) : (((w.alloc t1).drew.alloc t2).alloc t3).heap[w.heap.size + 1 + 1]? = some t3 ∧ (((w.alloc t1).drew.alloc t2).alloc t3).heap[w.heap.size + 1]? = some t2 ∧ KeptIn (· < w.heap.size) w (((w.alloc t1).drew.alloc t2).alloc t3) := by
  have s1 : (w.alloc t1).drew.heap.size = w.heap.size + 1 := by show (w.alloc t1).heap.size = _; simp
  have s2 : ((w.alloc t1).drew.alloc t2).heap.size = w.heap.size + 1 + 1 := by rw [World.size_alloc, s1]
  have k1 : KeptIn (· < w.heap.size) w (w.alloc t1).drew := ((KeptIn.refl _ w).alloc (fun _ h => h) t1).drew
  refine ⟨?_, ?_, (k1.alloc (fun _ h => h) _).alloc (fun _ h => h) _⟩
  · have := World.alloc_heap_new ((w.alloc t1).drew.alloc t2) t3
    rwa [s2] at this
  · rw [Lib.alloc_old _ _ _ (by rw [s2]; omega)]
    have := World.alloc_heap_new (w.alloc t1).drew t2
    rwa [s1] at this

set_option maxHeartbeats 2000000 in
set_option maxRecDepth 100000 in
theorem stStoreOf (d m s b N : Nat) (S : List (List UInt8)) (M : Int → Option (List UInt8)) (w : World) (hD : IsD d m s b N S M w) (h : Hd) (a n : Nat) (hn : min (S.length / 16) 512 = n) :
    Calls Tryz.prog 40 #[.pointer (some ⟨d, 0, none⟩), headV h, .int .i64 a] w fun e w' => ∃ st pg, e = .returned (.pointer (some ⟨st, 0, none⟩)) ∧ StAt ⟨d, m, s, b, st, pg⟩ h a (noP n) w' ∧ KeptIn (· < w.heap.size) w w' ∧ w.heap.size ≤ st ∧ w.heap.size ≤ pg := by
  obtain ⟨i0, hi, hz0, hz1, hz2⟩ := info_parts infoPage
  have hn5 : n ≤ 512 := by omega
  have hmk : ∀ V, (Instr.makeSlice 93 (.int .i64 (n : Int)) (.int .i64 (n : Int))).run Tryz.prog V = .ok (.slice (some ⟨V.heap.size, 0, none⟩) n n) (V.alloc (.cells (cellsG (noP n)).toArray 98)) := fun V => by
    have := run_make (P := Tryz.prog) V 93 98 i0 _ Tryz.underlying93 hi hz0 .i64 .i64 (n : Int) (n : Int) (by omega) (Int.le_refl _) (by rw [hz2]; omega) (by omega)
    rw [hz1, show ((n : Int)).toNat = n by omega] at this
    rw [this]
    show _ = Result.ok _ (V.alloc (.cells (cellsG (noP n)).toArray 98))
    rw [noP, ← made_pages]
    rfl
  obtain ⟨C, hC⟩ : ∃ C, (cellsG (noP n)).toArray = C := ⟨_, rfl⟩
  rw [hC] at hmk
  have HC := Lib.hid hC
  have CP : ∀ V, KeptIn (· < w.heap.size) w V → Calls Tryz.prog 36 #[.pointer (some ⟨d, 0, none⟩)] V fun e w' => e = .returned (.int .i64 n) ∧ V = w' := fun V hV =>
    stPagesOf d m s b N S M V (hD.kept hV hD.ltd hD.lts hD.ltb) n hn
  have HCP := Lib.hid CP
  obtain ⟨g, r, sl, f, c⟩ := h
  unfold headV
  have HH : Hid (w.heap.size = w.heap.size) := Lib.hid rfl
  clear CP hD hn hi hz0 hz1 hz2 hC
  go_enter Tryz.func40, Tryz.ntmps40
  go_wp2_with fail
  go_region_law (first | (go_simp; go_at_call 36; refine (HCP.out _ (by first | exact ((KeptIn.refl _ w).alloc (fun _ h => h) _).drew)).mono ?_; rintro e _ ⟨rfl, rfl⟩))
  all_goals
    go_wp2_with fail
    go_ret
    obtain ⟨q1, q2, q3⟩ := alloc3 w (.cells #[.int .u64 g, .int .i64 r, .int .i64 sl, .int .i64 f, .int .i64 c] 39) (.cells C 98) (.cells #[.pointer (some ⟨d, 0, none⟩), .int .u64 g, .int .i64 r, .int .i64 sl, .int .i64 f, .int .i64 c, .int .i64 a, .slice (some ⟨w.heap.size + 1, 0, none⟩) n n] 95)
    refine ⟨_, w.heap.size + 1, rfl, ⟨?_, ?_⟩, q3, by omega, by omega⟩
    · rw [noP_length]
      exact q1
    · rw [HC.out]
      exact q2

end Go.Proofs.YtkgjmejgkffbdaaGreatDoor
