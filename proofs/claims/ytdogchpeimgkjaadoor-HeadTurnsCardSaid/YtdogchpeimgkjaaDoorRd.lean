/- Package octet's Reader. -/
import Derived.Test.YtdogchpeimgkjaaDoorWr2
set_option linter.unusedVariables false
namespace Go.Proofs.YtdogchpeimgkjaaDoor
open Go.RowKit

/-- A reader at block r: what is left, and whether it is short. -/
def IsR (r : Nat) (l : List UInt8) (sh : Bool) (w : World) : Prop := w.heap[r]? = some (.cells #[.string ⟨l.toArray⟩, .bool sh] 83 (0, 0))

theorem IsR.lt {r : Nat} {l : List UInt8} {sh : Bool} {w : World} (h : IsR r l sh w) : r < w.heap.size := (Array.getElem?_eq_some_iff.1 h).1
theorem IsR.kept {X : Nat → Prop} {r : Nat} {l : List UInt8} {sh : Bool} {w w' : World} (h : IsR r l sh w) (hk : KeptIn X w w') (hX : X r) : IsR r l sh w' := (hk.block r hX).trans h

theorem ofW (s : ByteArray) (w : World) :
    Calls Tryd.prog 32 #[.string s] w fun e w' => e = .returned (.pointer (some ⟨w.heap.size, 0, none⟩)) ∧ IsR w.heap.size s.data.toList false w' ∧ KeptIn (· < w.heap.size) w w' := by
  go_enter Tryd.func32, Tryd.ntmps32
  go_wp2
  go_ret
  refine ⟨rfl, ?_, (KeptIn.refl _ _).alloc (fun _ h => h) _⟩
  unfold IsR
  rw [heap_alloc_new, Lib.mk_data]

theorem takeNil (n : Int) (w : World) : Calls Tryd.prog 33 #[.pointer none, .int .i64 n] w fun e w' => e = .returned (.string ⟨#[]⟩) ∧ w = w' := by
  go_enter Tryd.func33, Tryd.ntmps33
  go_wp2
  go_ret
  exact ⟨rfl, rfl⟩

/-- What a reader hands back of n bytes, and what is left. -/
def takeR (n : Int) (l : List UInt8) (sh : Bool) : List UInt8 × List UInt8 × Bool :=
  if n ≤ 0 then ([], l, sh) else if (l.length : Int) < n then ([], [], true) else (l.take n.toNat, l.drop n.toNat, sh)

theorem ext_take (l : List UInt8) (m : Nat) : (⟨l.toArray⟩ : ByteArray).extract 0 m = ⟨(l.take m).toArray⟩ := by
  rw [Lib.extract_eq]
  simp

theorem ext_drop (l : List UInt8) (m : Nat) : (⟨l.toArray⟩ : ByteArray).extract m l.length = ⟨(l.drop m).toArray⟩ := by
  rw [Lib.extract_eq]
  congr 2
  exact List.take_of_length_le (by simp)

theorem takeW (r : Nat) (l : List UInt8) (sh : Bool) (n : Int) (w : World) (h : IsR r l sh w) (hl : l.length ≤ 2147483647) :
    Calls Tryd.prog 33 #[.pointer (some ⟨r, 0, none⟩), .int .i64 n] w fun e w' => e = .returned (.string ⟨(takeR n l sh).1.toArray⟩) ∧ IsR r (takeR n l sh).2.1 (takeR n l sh).2.2 w' ∧ KeptIn (· ≠ r) w w' := by
  have c0 : w.cell? ⟨r, 0, none⟩ = some (.string ⟨l.toArray⟩) := by simp [World.cell?, show w.heap[r]? = _ from h]
  have c1 : w.cell? ⟨r, 1, none⟩ = some (.bool sh) := by simp [World.cell?, show w.heap[r]? = _ from h]
  have f0 : w.frozen? ⟨r, 0, none⟩ = false := by simp [World.frozen?, show w.heap[r]? = _ from h]
  have f1 : w.frozen? ⟨r, 1, none⟩ = false := by simp [World.frozen?, show w.heap[r]? = _ from h]
  have H := Lib.hid h; clear h
  unfold takeR
  by_cases h1 : n ≤ 0
  · rw [if_pos h1]
    go_enter Tryd.func33, Tryd.ntmps33
    go_wp2
    go_ret
    exact ⟨rfl, H.out, .refl _ _⟩
  · rw [if_neg h1]
    by_cases h2 : (l.length : Int) < n
    · rw [if_pos h2]
      go_enter Tryd.func33, Tryd.ntmps33
      go_wp2
      go_ret
      have H' := H.out
      unfold IsR at H'
      refine ⟨rfl, ?_, ((KeptIn.refl _ _).setCell (p := ⟨r, 0, none⟩) (by simp) _).setCell (p := ⟨r, 1, none⟩) (by simp) _⟩
      simp [IsR, World.setCell, Array.getElem?_modify, H']
    · rw [if_neg h2]
      obtain ⟨m, rfl⟩ := Int.eq_ofNat_of_zero_le (show 0 ≤ n by omega)
      have b0 : (0 : Int) ≤ (m : Int) := by omega
      have b1 : (m : Int) ≤ (l.length : Int) := by omega
      have b2 : m ≤ l.length := by omega
      rw [Int.toNat_natCast]
      go_enter Tryd.func33, Tryd.ntmps33
      go_wp2
      go_ret
      have H' := H.out
      unfold IsR at H'
      refine ⟨congrArg (fun s => Ending.returned (Value.string s)) (ext_take l m), ?_, (KeptIn.refl _ _).setCell (p := ⟨r, 0, none⟩) (by simp) _⟩
      simp [IsR, World.setCell, Array.getElem?_modify, H', ext_drop]

theorem endNil (w : World) : Calls Tryd.prog 35 #[.pointer none] w fun e w' => e = .returned (.int .i64 2) ∧ w = w' := by
  go_enter Tryd.func35, Tryd.ntmps35
  go_wp2
  go_ret
  exact ⟨rfl, rfl⟩

/-- What End answers. -/
def endOf (l : List UInt8) (sh : Bool) : Int := if (sh || !l.isEmpty) = true then 3 else 0

theorem endW (r : Nat) (l : List UInt8) (sh : Bool) (w : World) (h : IsR r l sh w) :
    Calls Tryd.prog 35 #[.pointer (some ⟨r, 0, none⟩)] w fun e w' => e = .returned (.int .i64 (endOf l sh)) ∧ w = w' := by
  have c0 : w.cell? ⟨r, 0, none⟩ = some (.string ⟨l.toArray⟩) := by simp [World.cell?, show w.heap[r]? = _ from h]
  have c1 : w.cell? ⟨r, 1, none⟩ = some (.bool sh) := by simp [World.cell?, show w.heap[r]? = _ from h]
  clear h
  cases sh
  · cases l with
    | nil =>
      go_enter Tryd.func35, Tryd.ntmps35
      go_wp2
      go_ret
      exact ⟨rfl, rfl⟩
    | cons x r =>
      go_enter Tryd.func35, Tryd.ntmps35
      go_wp2
      go_ret
      exact ⟨rfl, rfl⟩
  · go_enter Tryd.func35, Tryd.ntmps35
    go_wp2
    go_ret
    exact ⟨rfl, rfl⟩

theorem conv_get (t : List UInt8) (w : World) : ∃ cap W, (convert 9 42 (.string ⟨t.toArray⟩)).run Tryd.prog w = .ok (.slice (some ⟨w.heap.size, 0, none⟩) t.length cap) W ∧
    (∀ i b, t[i]? = some b → W.cell? ⟨w.heap.size, i, none⟩ = some (.int .u8 b.toNat)) ∧ KeptIn (· < w.heap.size) w W := by
  refine ⟨_, _, run_bytes_of_string w 9 42 5 ⟨t.toArray⟩ (by kernel_rfl) (by kernel_rfl) (by kernel_rfl), ?_, (KeptIn.refl _ _).drew.alloc (fun _ h => h) _⟩
  · intro i b hb
    obtain ⟨hi, rfl⟩ := List.getElem?_eq_some_iff.1 hb
    have hr := bytesRow_at ⟨t.toArray⟩ (grownCap w (⟨t.toArray⟩ : ByteArray).size 0 5) i (by simpa using hi)
    show World.cell? _ ⟨w.drew.heap.size, i, none⟩ = _
    rw [Lib.cell_of_heap (heap_alloc_new w.drew _)]
    simpa using hr

theorem getWith (p : Option Addr) (size : Int) (w : World) (t : List UInt8) (R : World → Prop) (ht : t.length ≤ 8)
    (hT : Calls Tryd.prog 33 #[.pointer p, .int .i64 (min (max size 1) 8)] w fun e w' => e = .returned (.string ⟨t.toArray⟩) ∧ R w') :
    Calls Tryd.prog 34 #[.pointer p, .int .i64 size] w fun e w' => e = .returned (.int .u64 (numLE t)) ∧ ∃ w1, R w1 ∧ KeptIn (· < w1.heap.size) w1 w' := by
  have H := Lib.hid hT; clear hT
  go_enter Tryd.func34, Tryd.ntmps34
  go_wp2_with fail
  refine (near size _).mono ?_
  rintro e _ ⟨rfl, rfl⟩
  go_wp2_with fail
  refine H.out.mono ?_
  rintro e w1 ⟨rfl, h1⟩
  have HR := Lib.hid h1; clear h1
  obtain ⟨cap, W, hconv, hcells, hk⟩ := conv_get t w1
  have HCells := Lib.hid hcells; clear hcells
  have HK := Lib.hid hk; clear hk
  have hl0 : (0 : Int) ≤ (t.length : Int) := by omega
  have hl8 : (t.length : Int) ≤ 8 := by omega
  go_wp2_with fail
  go_loop [5, 14] (fun n c => ∃ j : Nat, j ≤ t.length ∧ c = .int .i64 j ∧ n = .int .u64 (numLE (t.take j))) (fun _ c => t.length - (intOf c).toNat)
  case atStart => exact ⟨0, Nat.zero_le _, rfl, rfl⟩
  case round =>
    obtain ⟨j, hj, rfl, rfl⟩ := hrel
    by_cases hlt : j < t.length
    · have b0 : (0 : Int) ≤ (j : Int) := by omega
      have b1 : (j : Int) < (t.length : Int) := by omega
      have b2 : (j : Int) < 8 := by omega
      have hcell : W.cell? ⟨w1.heap.size, j, none⟩ = some (.int .u8 (t[j].toNat : Int)) := HCells.out j t[j] (List.getElem?_eq_getElem hlt)
      obtain ⟨x, hx⟩ : ∃ x : Nat, x = t[j].toNat := ⟨_, rfl⟩
      have hx0 : x < 256 := by rw [hx]; exact t[j].toNat_lt
      rw [← hx] at hcell
      have HX := Lib.hid hx; clear hx
      have x0 : (0 : Int) ≤ (x : Int) := by omega
      have x1 : (x : Int) < 256 := by omega
      have hstep : numLE (t.take (j + 1)) = numLE (t.take j) + x * 2 ^ (8 * j) := by
        have := numLE_snoc (t.take j) t[j]
        rw [← List.take_succ_eq_append_getElem hlt, List.length_take, Nat.min_eq_left hj, ← HX.out] at this
        exact this
      have hor := or_step (t.take j) x hx0 (by rw [List.length_take]; omega)
      rw [List.length_take, Nat.min_eq_left hj] at hor
      have HO := Lib.hid hor; have HS := Lib.hid hstep
      clear hor hstep
      go_wp2_with fail
      go_round
      case rel => exact ⟨j + 1, by omega, by go_num, by rw [HO.out, HS.out]⟩
      case measure => simp [intOf]; omega
    · obtain rfl : j = t.length := by omega
      go_wp2_with fail
      go_ret
      exact ⟨rfl, w1, HR.out, HK.out⟩

theorem getNil (size : Int) (w : World) : Calls Tryd.prog 34 #[.pointer none, .int .i64 size] w fun e w' => e = .returned (.int .u64 0) ∧ KeptIn (· < w.heap.size) w w' := by
  refine (getWith none size w [] (w = ·) (by decide) (takeNil _ w)).mono ?_
  rintro e w' ⟨he, w1, rfl, h⟩
  exact ⟨he, h⟩

theorem takeR_le (n : Int) (l : List UInt8) (sh : Bool) (k : Nat) (hn : n ≤ k) : (takeR n l sh).1.length ≤ k := by
  unfold takeR
  split
  · simp
  · split
    · simp
    · simp; omega

theorem getW (X : Nat → Prop) (r : Nat) (l : List UInt8) (sh : Bool) (size : Int) (w : World) (h : IsR r l sh w) (hXr : ¬ X r) (hX : ∀ k, X k → k < w.heap.size) (hl : l.length ≤ 2147483647) :
    Calls Tryd.prog 34 #[.pointer (some ⟨r, 0, none⟩), .int .i64 size] w fun e w' => e = .returned (.int .u64 (numLE (takeR (min (max size 1) 8) l sh).1)) ∧
      IsR r (takeR (min (max size 1) 8) l sh).2.1 (takeR (min (max size 1) 8) l sh).2.2 w' ∧ KeptIn X w w' := by
  refine (getWith _ size w _ _ (takeR_le _ l sh 8 (by omega)) (takeW r l sh _ w h hl)).mono ?_
  rintro e w' ⟨he, w1, ⟨h1, h2⟩, h3⟩
  exact ⟨he, h1.kept h3 h1.lt, (h2.mono (fun k hk e => hXr (e ▸ hk))).trans (h3.mono (fun k hk => Nat.lt_of_lt_of_le (hX k hk) h2.size))⟩

end Go.Proofs.YtdogchpeimgkjaaDoor
