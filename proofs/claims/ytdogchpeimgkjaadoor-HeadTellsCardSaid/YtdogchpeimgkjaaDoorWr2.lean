/- Package octet's Writer: Put, Fill, String. -/
import Derived.Test.YtdogchpeimgkjaaDoorWr
import Derived.Test.YtdogchpeimgkjaaDoorBytes
import Derived.IntWalk
set_option linter.unusedVariables false
namespace Go.Proofs.YtdogchpeimgkjaaDoor
open Go.RowKit

theorem stringNil (w : World) : Calls Tryd.prog 17 #[.pointer none] w fun e w' => e = .returned (.string ⟨#[]⟩) ∧ w = w' := by
  go_enter Tryd.func17, Tryd.ntmps17
  go_wp2
  go_ret
  exact ⟨rfl, rfl⟩

theorem writtenW (X : Nat → Prop) (a : Nat) (l : List UInt8) (z : Nat) (w : World) (h : IsW X a l z w) (hl : l.length ≤ 2147483647) :
    Calls Tryd.prog 28 #[.pointer (some ⟨a, 0, none⟩)] w fun e w' => e = .returned (.string ⟨l.toArray⟩) ∧ IsW X a l z w' ∧ KeptIn (also X a) w w' := by
  obtain ⟨hXa, ⟨rfl, hc⟩ | ⟨b, hc, hb⟩⟩ := h
  · refine (writtenNil a _ _ w hc).mono ?_
    rintro e _ ⟨rfl, rfl⟩
    exact ⟨rfl, ⟨hXa, .inl ⟨rfl, hc⟩⟩, .refl _ _⟩
  · refine (writtenSome X a b l z w hc hb hl).mono ?_
    rintro e w' ⟨rfl, h1, h2⟩
    exact ⟨rfl, ⟨hXa, .inr ⟨b, by rw [h2.block a (.inr rfl)]; exact hc, h1⟩⟩, h2⟩

theorem append_zeros (l : List UInt8) (z : Nat) : (⟨l.toArray⟩ : ByteArray) ++ ⟨Array.replicate z 0⟩ = ⟨(l ++ List.replicate z 0).toArray⟩ := by
  apply ByteArray.ext
  simp

theorem stringW (X : Nat → Prop) (a : Nat) (l : List UInt8) (z : Nat) (w : World) (h : IsW X a l z w) (hX : ∀ k, X k → k < w.heap.size) (hz : l.length + z ≤ 2147483647) :
    Calls Tryd.prog 17 #[.pointer (some ⟨a, 0, none⟩)] w fun e w' => e = .returned (.string ⟨(l ++ List.replicate z 0).toArray⟩) ∧ IsW X a l z w' ∧ KeptIn X w w' := by
  have H := Lib.hid h; clear h
  have b0 : (0 : Int) ≤ (z : Int) := by omega
  have b1 : (z : Int) ≤ 2147483647 := by omega
  have b2 : (0 : Int) ≤ (l.length : Int) := by omega
  have b3 : (l.length : Int) ≤ 2147483647 := by omega
  have hcmp : ¬ (2147483647 < (l.length : Int) + (z : Int)) := by omega
  have hcat : ¬ 9223372036854775807 < l.length + z := by omega
  go_enter Tryd.func17, Tryd.ntmps17
  go_wp2_with fail
  refine (lenW X a l z _ H.out (by omega)).mono ?_
  rintro e w1 ⟨rfl, k, rfl⟩
  obtain ⟨w2, hw2⟩ : ∃ w2, w2 = w.drewN k := ⟨_, rfl⟩
  rw [← hw2]
  have h2 : IsW X a l z w2 := hw2 ▸ H.out.drewN k
  have hK : KeptIn X w w2 := hw2 ▸ (KeptIn.refl _ _).drewN k
  have hX2 := hK.lt hX
  have hlt := h2.lt
  obtain ⟨q1, q2, f2⟩ := h2.cells
  have HX2 : ∀ k, also X a k → k < w2.heap.size := by
    rintro k (h | rfl)
    · exact hX2 k h
    · exact hlt
  have H2 := Lib.hid h2
  clear h2 hw2 H hX hcmp q1 f2
  go_wp2
  go_region_held3 (fun w' => w'.cell? ⟨a, 2, none⟩ = some (.int .i64 z)) (first | exact (World.cell?_of_block (h3.block a (Nat.lt_of_lt_of_le hlt h2.size))).trans (by assumption) | exact (World.cell?_of_block (h2.block a (.inr rfl))).trans (by first | exact q2 | assumption) | exact q2 | go_keep)
    (first | (go_at_call 28; refine (writtenW X a l z _ ?_ ?_).mono ?_; (exact H2.out); omega; rintro e w' ⟨rfl, h1, h2⟩) | (go_at_call 29; refine (repeatZ z _ ?_).mono ?_; omega; rintro e w' ⟨rfl, h3⟩))
  go_wp2
  go_ret
  exact ⟨congrArg (fun s => Ending.returned (Value.string s)) (append_zeros l z), h1.old h3, hK.drew.trans ((h2.mono (fun _ => .inl)).trans (h3.mono (fun k h => Nat.lt_of_lt_of_le (hX2 k h) h2.size)))⟩

theorem conv_put (n j : Nat) (hj : j ≤ 8) (w : World) :
    (convert 42 9 (.slice (some ⟨w.heap.size, 0, none⟩) j 8)).run Tryd.prog (w.alloc (.cells (putCells n j).toArray 59)) = .ok (.string ⟨(bytesLE n j).toArray⟩) (w.alloc (.cells (putCells n j).toArray 59)) := by
  have hc : (loadCells ⟨w.heap.size, 0, none⟩ j).run Tryd.prog (w.alloc (.cells (putCells n j).toArray 59)) = .ok (((bytesLE n j).map (fun b : UInt8 => (b.toNat : Int))).map (Value.int .u8)).toArray (w.alloc (.cells (putCells n j).toArray 59)) := by
    have hl : (((bytesLE n j).map (fun b : UInt8 => (b.toNat : Int))).map (Value.int .u8)).length = j := by simp [bytesLE_length]
    have hnew : (w.alloc (.cells (putCells n j).toArray 59)).heap[w.heap.size]? = some (.cells (putCells n j).toArray 59 (0, 0)) := heap_alloc_new w _
    have := run_loadCells_list (P := Tryd.prog) (w.alloc (.cells (putCells n j).toArray 59)) ⟨w.heap.size, 0, none⟩ (((bytesLE n j).map (fun b : UInt8 => (b.toNat : Int))).map (Value.int .u8)) (fun i v hv => by
      have hadd : (⟨w.heap.size, 0, none⟩ : Addr).add i = ⟨w.heap.size, i, none⟩ := by unfold Addr.add; split <;> simp_all
      rw [hadd, Lib.cell_of_heap hnew]
      have ht : ((bytesLE n j).map (fun b : UInt8 => (b.toNat : Int))).map (Value.int .u8) = (putCells n j).take j := by rw [putCells_take, List.map_map]; rfl
      rw [ht, List.getElem?_take] at hv
      split at hv
      · simpa using hv
      · cases hv)
    rw [hl] at this
    exact this
  rw [run_convert_bytes_string (P := Tryd.prog) _ 42 9 5 _ _ _ (by kernel_rfl) (by kernel_rfl) (by kernel_rfl), run_bytesToString _ _ _ _ _ hc, foldl_push_byteCells]
  simp

/-- Put: the number's lowest bytes go to Text. -/
theorem putWith (p : Option Addr) (n : Nat) (size : Int) (w : World) (R : World → Prop) (hn : n < 18446744073709551616)
    (hT : ∀ W, KeptIn (· < w.heap.size) w W → Calls Tryd.prog 25 #[.pointer p, .string ⟨(bytesLE n (min (max size 1) 8).toNat).toArray⟩] W fun e w' => e = .returned (.tuple #[]) ∧ R w') :
    Calls Tryd.prog 15 #[.pointer p, .int .u64 n, .int .i64 size] w fun e w' => e = .returned (.tuple #[]) ∧ R w' := by
  have H := Lib.hid hT; clear hT
  go_enter Tryd.func15, Tryd.ntmps15
  go_wp2_with fail
  refine (near size _).mono ?_
  rintro e _ ⟨rfl, rfl⟩
  obtain ⟨k, hk, hk1, hk8⟩ : ∃ k : Nat, min (max size 1) 8 = (k : Int) ∧ 1 ≤ k ∧ k ≤ 8 := ⟨(min (max size 1) 8).toNat, by omega, by omega, by omega⟩
  have HK := Lib.hid hk
  rw [hk]
  clear hk
  go_wp2_with fail
  go_loopw [11] (fun c W => ∃ j : Nat, j ≤ k ∧ c = .int .i64 j ∧ W = w.alloc (.cells (putCells n j).toArray 59)) (fun c _ => k - (intOf c).toNat)
  case atStart => exact ⟨0, Nat.zero_le _, rfl, rfl⟩
  case round =>
    obtain ⟨j, hj, rfl, rfl⟩ := hrel
    by_cases hlt : j < k
    · have h8 : (j : Int) < 8 := by omega
      have h0 : (0 : Int) ≤ (j : Int) := by omega
      have hlt' : (j : Int) < (k : Int) := by omega
      have hat := putCells_at n j (by omega)
      have HS := Lib.hid (putCells_set n j (by omega))
      have hsz := putCells_length n j (by omega)
      go_wp2_with fail
      go_roundw
      case rel => exact ⟨j + 1, by omega, by go_num, by rw [← HS.out]⟩
      case measure => simp [intOf]; omega
    · obtain rfl : j = k := by omega
      have hsz := putCells_length n j (by omega)
      have h8 : (j : Int) ≤ 8 := by omega
      have h0 : (0 : Int) ≤ (j : Int) := by omega
      have hconv := conv_put n j hk8 w
      go_wp2_with fail
      have hb1 : KeptIn (· < w.heap.size) w (w.alloc (.cells (putCells n j).toArray 59)) := (KeptIn.refl _ _).alloc (fun _ h => h) _
      have hh := H.out _ hb1
      rw [HK.out, Int.toNat_natCast] at hh
      refine hh.mono ?_
      rintro e w2 ⟨rfl, h2⟩
      clear hh
      have H2 := Lib.hid h2; clear h2
      go_wp2
      go_end0
      exact ⟨rfl, H2.out⟩

theorem putNil (n : Nat) (size : Int) (w : World) (hn : n < 18446744073709551616) :
    Calls Tryd.prog 15 #[.pointer none, .int .u64 n, .int .i64 size] w fun e w' => e = .returned (.tuple #[]) ∧ KeptIn (· < w.heap.size) w w' :=
  putWith none n size w _ hn fun W hW => (textNil _ W).mono fun e w' ⟨he, h⟩ => ⟨he, h ▸ hW⟩

theorem putSome (X : Nat → Prop) (a : Nat) (l : List UInt8) (z : Nat) (n : Nat) (size : Int) (w : World) (h : IsW X a l z w) (hX : ∀ k, X k → k < w.heap.size) (hn : n < 18446744073709551616) (hz : l.length + z + 8 ≤ 2147483647) :
    Calls Tryd.prog 15 #[.pointer (some ⟨a, 0, none⟩), .int .u64 n, .int .i64 size] w fun e w' => e = .returned (.tuple #[]) ∧ IsW X a (l ++ List.replicate z 0 ++ bytesLE n (min (max size 1) 8).toNat) 0 w' ∧ KeptIn X w w' := by
  refine putWith _ n size w (fun w' => IsW X a (l ++ List.replicate z 0 ++ bytesLE n (min (max size 1) 8).toNat) 0 w' ∧ KeptIn X w w') hn fun W hW => ?_
  refine (textSome X a l z _ W (h.old hW) ((hW.mono hX).lt hX) ?_ ?_).mono fun e w' ⟨he, h1, h2⟩ => ⟨he, h1, (hW.mono hX).trans h2⟩
  · intro e
    have := congrArg List.length e
    simp [bytesLE_length] at this
    omega
  · show _ + (bytesLE n _).toArray.size ≤ _
    simp only [List.size_toArray, bytesLE_length]
    omega

/-! ### In terms of the bytes that a Writer holds -/

theorem Holds.lt {X : Nat → Prop} {a : Nat} {c : List UInt8} {w : World} (h : Holds X a c w) : a < w.heap.size := h.elim fun _ ⟨_, h, _⟩ => h.lt
theorem Holds.not {X : Nat → Prop} {a : Nat} {c : List UInt8} {w : World} (h : Holds X a c w) : ¬ X a := h.elim fun _ ⟨_, h, _⟩ => h.1
theorem Holds.old {X : Nat → Prop} {a : Nat} {c : List UInt8} {w w' : World} (h : Holds X a c w) (hk : KeptIn (· < w.heap.size) w w') : Holds X a c w' :=
  h.imp fun _ ⟨z, h, e⟩ => ⟨z, h.old hk, e⟩
theorem Holds.fresh (X : Nat → Prop) (w : World) (hX : ∀ k, X k → k < w.heap.size) : Holds X w.heap.size [] (w.alloc (.cells #[.pointer none, .int .i64 0, .int .i64 0] 49)) :=
  ⟨[], 0, ⟨fun h => Nat.lt_irrefl _ (hX _ h), .inl ⟨rfl, heap_alloc_new w _⟩⟩, rfl⟩

/-- What lies beyond all that is there is none of a Writer's memory. -/
theorem Holds.beyond {X : Nat → Prop} {a : Nat} {c : List UInt8} {w : World} (h : Holds X a c w) (r : Nat) (hr : w.heap.size ≤ r) : Holds (also X r) a c w := by
  obtain ⟨l, z, h, e⟩ := h
  have hlt := h.lt
  refine ⟨l, z, ⟨?_, ?_⟩, e⟩
  · rintro (k | k)
    · exact h.1 k
    · omega
  · refine h.2.imp id ?_
    rintro ⟨b, hb, h1⟩
    have hbl := h1.lt
    obtain ⟨hX, v, hv, hg⟩ := h1
    refine ⟨b, hb, ?_, v, hv, ?_⟩
    · rintro (k | k)
      · exact hX k
      · omega
    · rintro g eg (k | k)
      · exact hg g eg k
      · obtain ⟨p, _, _, hown, _⟩ := hv
        have := (hown.lt g eg).2
        omega

theorem Holds.less {X Y : Nat → Prop} {a : Nat} {c : List UInt8} {w : World} (h : Holds X a c w) (hY : ∀ k, Y k → X k) : Holds Y a c w := by
  obtain ⟨l, z, h, e⟩ := h
  exact ⟨l, z, ⟨fun k => h.1 (hY _ k), h.2.imp id fun ⟨b, h1, h2⟩ => ⟨b, h1, h2.less hY⟩⟩, e⟩

/-- A Writer stays as it is where all that may be its own stands. -/
theorem Holds.comp {X : Nat → Prop} {a : Nat} {c : List UInt8} {w w' : World} (h : Holds X a c w) (hk : KeptIn (fun k => ¬ X k ∧ k < w.heap.size) w w') : Holds X a c w' := by
  obtain ⟨l, z, h, e⟩ := h
  have hlt := h.lt
  refine ⟨l, z, ⟨h.1, ?_⟩, e⟩
  rcases h.2 with ⟨h1, h2⟩ | ⟨b, h1, h2⟩
  · exact .inl ⟨h1, by rw [hk.block a ⟨h.1, hlt⟩]; exact h2⟩
  · refine .inr ⟨b, by rw [hk.block a ⟨h.1, hlt⟩]; exact h1, ?_⟩
    have hbl := h2.lt
    obtain ⟨hX, v, hv, hg⟩ := h2
    refine ⟨hX, v, hv.kept hk ⟨hX, hbl⟩ fun g eg => ⟨hg g eg, ?_⟩, hg⟩
    obtain ⟨p, _, _, hown, _⟩ := hv
    exact (hown.lt g eg).2

theorem also_lt {X : Nat → Prop} {n r : Nat} (hX : ∀ k, X k → k < n) (hr : r < n) : ∀ k, also X r k → k < n := by
  rintro k (h | rfl)
  · exact hX k h
  · exact hr

theorem hText (X : Nat → Prop) (a : Nat) (c : List UInt8) (s : ByteArray) (w : World) (h : Holds X a c w) (hX : ∀ k, X k → k < w.heap.size) (hz : c.length + s.size ≤ 2147483647) :
    Calls Tryd.prog 25 #[.pointer (some ⟨a, 0, none⟩), .string s] w fun e w' => e = .returned (.tuple #[]) ∧ Holds X a (c ++ s.data.toList) w' ∧ KeptIn X w w' := by
  obtain ⟨l, z, h, rfl⟩ := h
  by_cases hs : s.data.toList = []
  · obtain rfl : s = ⟨#[]⟩ := by
      obtain ⟨d⟩ := s
      obtain rfl : d = #[] := by simpa using hs
      rfl
    refine (textEmpty a w).mono fun e w' ⟨he, h1⟩ => ?_
    subst h1
    exact ⟨he, ⟨l, z, h, by simp⟩, .refl _ _⟩
  · refine (textSome X a l z s w h hX hs (by simpa using hz)).mono fun e w' ⟨he, h1, h2⟩ => ⟨he, ⟨_, 0, h1, by simp⟩, h2⟩

theorem hPut (X : Nat → Prop) (a : Nat) (c : List UInt8) (n : Nat) (size : Int) (w : World) (h : Holds X a c w) (hX : ∀ k, X k → k < w.heap.size) (hn : n < 18446744073709551616) (hz : c.length + 8 ≤ 2147483647) :
    Calls Tryd.prog 15 #[.pointer (some ⟨a, 0, none⟩), .int .u64 n, .int .i64 size] w fun e w' => e = .returned (.tuple #[]) ∧ Holds X a (c ++ bytesLE n (min (max size 1) 8).toNat) w' ∧ KeptIn X w w' := by
  obtain ⟨l, z, h, rfl⟩ := h
  refine (putSome X a l z n size w h hX hn (by simpa using hz)).mono fun e w' ⟨he, h1, h2⟩ => ⟨he, ⟨_, 0, h1, by simp⟩, h2⟩

theorem hString (X : Nat → Prop) (a : Nat) (c : List UInt8) (w : World) (h : Holds X a c w) (hX : ∀ k, X k → k < w.heap.size) (hz : c.length ≤ 2147483647) :
    Calls Tryd.prog 17 #[.pointer (some ⟨a, 0, none⟩)] w fun e w' => e = .returned (.string ⟨c.toArray⟩) ∧ Holds X a c w' ∧ KeptIn X w w' := by
  obtain ⟨l, z, h, rfl⟩ := h
  exact (stringW X a l z w h hX (by simpa using hz)).mono fun e w' ⟨he, h1, h2⟩ => ⟨he, ⟨l, z, h1, rfl⟩, h2⟩

theorem hLen (X : Nat → Prop) (a : Nat) (c : List UInt8) (w : World) (h : Holds X a c w) (hz : c.length ≤ 2147483647) :
    Calls Tryd.prog 27 #[.pointer (some ⟨a, 0, none⟩)] w fun e w' => e = .returned (.int .i64 c.length) ∧ ∃ n, w' = w.drewN n := by
  obtain ⟨l, z, h, rfl⟩ := h
  exact (lenW X a l z w h (by simpa using hz)).mono fun e w' ⟨he, h1⟩ => ⟨by rw [he]; simp, h1⟩

end Go.Proofs.YtdogchpeimgkjaaDoor
