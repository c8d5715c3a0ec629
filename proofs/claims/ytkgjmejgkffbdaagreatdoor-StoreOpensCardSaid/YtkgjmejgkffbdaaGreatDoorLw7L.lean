import Derived.Test.YtkgjmejgkffbdaaGreatDoorSoL
import Derived.Test.YtkgjmejgkffbdaaGreatDoorScL
import Derived.Test.YtkgjmejgkffbdaaGreatDoorSaL
import Derived.Test.YtkgjmejgkffbdaaGreatDoorSrL
import Derived.Test.YtkgjmejgkffbdaaGreatDoorRef5L
/- The laws' own helpers of layer 7: slots, node. -/
set_option linter.unusedVariables false
namespace Go.Proofs.YtkgjmejgkffbdaaGreatDoor
open Go.RowKit

theorem l7slots (w : World) : Calls Tryz.prog 9 #[] w fun e w' => e = .returned (.agg #[.int .i64 9, .int .i64 3]) ∧ KeptIn (· < w.heap.size) w w' := by
  go_enter Tryz.func9, Tryz.ntmps9
  go_wp2_with fail
  try simp only [Exit.inBlock, Exit.then]
  refine bodyPost_ret (results_cell_row rfl _ _ w.heap.size 33 _ _ _ rfl (heap_alloc_new w (.cells #[.int .i64 9, .int .i64 3] 33)) Tryz.underlying33 rfl (by kernel_rfl)) rfl ?_
  exact ⟨rfl, (KeptIn.refl _ w).alloc (fun _ h => h) _⟩

/-- A number as a key. -/
def ku (n : Int) : Nat := (IntKind.u64.wrap n).toNat
theorem ku_eq (n : Int) : IntKind.u64.wrap n = (ku n : Int) := by
  unfold ku
  rw [IntKind.wrap_u64]
  omega
theorem ku_lt (n : Int) : ku n < 18446744073709551616 := by
  unfold ku
  rw [IntKind.wrap_u64]
  omega
theorem ku_of (n : Nat) (h : n < 18446744073709551616) : ku (n : Int) = n := by
  unfold ku
  rw [IntKind.wrap_u64]
  omega

/-- The pairs of node(n). -/
def psK (k : Nat) : Pairs := [(k, k)]
theorem psK_good (k : Nat) : goodN 0 (psK k) = true := by
  simp [goodN, countOk, rises, psK]
theorem psK_fits (k : Nat) (h : k < 18446744073709551616) : Fits (psK k) := fun p hp => by
  have : p = (k, k) := by simpa [psK] using hp
  subst this
  exact ⟨h, h⟩
theorem psK_inj {j k : Nat} (h : psK j = psK k) : j = k := by
  simp [psK] at h
  exact h
/-- The bytes of node(n). -/
def bytesK (k : Nat) : List UInt8 := bytesN 0 (psK k)
theorem bytesK_length (k : Nat) : (bytesK k).length = 256 := bytesN_length _ _ (by simp [psK])
theorem bytesK_read (k : Nat) (h : k < 18446744073709551616) : isN (bytesK k) = true ∧ lvR (bytesK k) = 0 ∧ psR (bytesK k) = psK k := by
  obtain ⟨h1, h2, h3⟩ := read_bytes (psK_good k) (psK_fits k h)
  obtain ⟨e1, e2⟩ := is_isN h1
  exact ⟨h1, e1.trans h2, e2.trans h3⟩

/-- What node hands back. -/
def NodeS (k : Nat) (w : World) (e : Ending) (w' : World) : Prop :=
  ∃ g : Nat, e = .returned (.agg #[.int .i64 0, .slice (some ⟨g, 0, none⟩) 1 1]) ∧ IsPs w' (some ⟨g, 0, none⟩) (psK k) ∧ w.heap.size ≤ g ∧ KeptIn (· < w.heap.size) w w'

theorem psK_at (k g : Nat) (hk : k < 18446744073709551616) (W : World) (h : W.heap[g]? = some (.cells #[.int .u64 k, .int .u64 k] 100 (0, 0))) : IsPs W (some ⟨g, 0, none⟩) (psK k) := by
  refine ⟨by simp [psK, maxLen], psK_fits k hk, fun _ => ⟨g, 0, rfl, (Array.getElem?_eq_some_iff.1 h).1, fun i hi => ?_⟩⟩
  obtain rfl : i = 0 := by simpa [psK] using hi
  rw [cell_of_row _ _ _ _ _ _ h, cell_of_row _ _ _ _ _ _ h]
  exact ⟨rfl, rfl⟩

set_option maxHeartbeats 1000000 in
theorem l7node (n : Int) (k : Nat) (hk : ku n = k) (w : World) : Calls Tryz.prog 12 #[.int .i64 n] w (NodeS k w) := by
  have hw : IntKind.u64.wrap n = (k : Int) := by rw [ku_eq, hk]
  have hw2 : n % 18446744073709551616 = (k : Int) := by rw [← hw, IntKind.wrap_u64]
  have hlt : k < 18446744073709551616 := by rw [← hk]; exact ku_lt n
  have HLT := Lib.hid hlt
  clear hk hlt
  go_enter Tryz.func12, Tryz.ntmps12
  go_wp2_with fail
  obtain ⟨V, hV⟩ : ∃ V, (w.alloc (.cells #[.int .i64 0, .slice (some ⟨w.heap.size + 1, 0, none⟩) 1 1] 47)).alloc (.cells #[.int .u64 k, .int .u64 k] 100) = V := ⟨_, rfl⟩
  have h1 : V.heap[w.heap.size]? = some (.cells #[.int .i64 0, .slice (some ⟨w.heap.size + 1, 0, none⟩) 1 1] 47 (0, 0)) := by
    rw [← hV]
    exact (Lib.alloc_old _ _ _ (by simp)).trans (heap_alloc_new w _)
  have h2 : V.heap[w.heap.size + 1]? = some (.cells #[.int .u64 k, .int .u64 k] 100 (0, 0)) := by
    rw [← hV]
    have := heap_alloc_new (w.alloc (.cells #[.int .i64 0, .slice (some ⟨w.heap.size + 1, 0, none⟩) 1 1] 47)) (.cells #[.int .u64 k, .int .u64 k] 100)
    rwa [World.size_alloc] at this
  have h3 : KeptIn (· < w.heap.size) w V := by rw [← hV]; exact ((KeptIn.refl _ w).alloc (fun _ h => h) _).alloc (fun _ h => h) _
  rw [hV]
  try simp only [Exit.inBlock, Exit.then]
  refine bodyPost_ret (results_cell_row rfl _ _ w.heap.size 47 _ _ _ rfl h1 Tryz.underlying47 rfl (by kernel_rfl)) rfl ?_
  unfold NodeS
  exact ⟨w.heap.size + 1, rfl, psK_at k _ HLT.out V h2, Nat.le_succ _, h3⟩

end Go.Proofs.YtkgjmejgkffbdaaGreatDoor
