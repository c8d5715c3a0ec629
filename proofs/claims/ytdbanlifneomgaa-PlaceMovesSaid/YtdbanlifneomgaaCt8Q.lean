import Derived.Test.YtdbanlifneomgaaDr8Q
/- slices.Index, slices.Contains at integers. -/
set_option linter.unusedVariables false
namespace Go.Proofs.Ytdbanlifneomgaa
open Go.RowKit

/-- Integers in memory. -/
structure IntsL (W : World) (b : Option Addr) (l : List Int) : Prop where
  len : l.length ≤ maxLen
  cells : 0 < l.length → ∃ bk off, b = some ⟨bk, off, none⟩ ∧ bk < W.heap.size ∧ ∀ i, i < l.length → W.cell? ⟨bk, off + i, none⟩ = some (.int .i64 (l.getD i 0))

/-- slices.Index at integers: whether a number is among them. -/
theorem iIndex8 (x : Int) (b : Option Addr) (cap : Nat) (l : List Int) (W : World) (hi : IntsL W b l) :
    Calls Try.prog 104 #[.slice b l.length cap, .int .i64 x] W fun e w' => (∃ i : Int, e = .returned (.int .i64 i) ∧ (0 ≤ i ↔ x ∈ l)) ∧ W = w' := by
  obtain ⟨n, hn⟩ : ∃ n, l.length = n := ⟨_, rfl⟩
  have hm : (n : Int) ≤ 9223372036854775807 := by have := hi.len; unfold maxLen at this; omega
  have H := Lib.hid hi
  have HN := Lib.hid hn
  rw [hn]
  clear hi hn
  go_enter Try.func104, Try.ntmps104
  go_wp2_with fail
  go_loopw [5, 8] (fun _ c wr => ∃ (j : Nat) (V : World), V = wr ∧ wr = W ∧ j ≤ n ∧ c = .int .i64 j ∧ Hid (∀ i, i < j → l.getD i 0 ≠ x)) (fun _ c _ => n - (RowKit.intOf c).toNat)
  case atStart => exact ⟨0, _, rfl, by trivial, Nat.zero_le _, rfl, Lib.hid fun i hi => absurd hi (by omega)⟩
  case round =>
    obtain ⟨j, V, rfl, rfl, hj, rfl, HJ⟩ := hrel
    have d0 : (0 : Int) ≤ (j : Int) := by omega
    by_cases hlt : j < n
    · have d1 : (j : Int) < (n : Int) := by omega
      have hjl : j < l.length := by rw [HN.out]; exact hlt
      obtain ⟨b, off, rfl, hb, hc⟩ := H.out.cells (by omega)
      have e1 := hc j hjl
      obtain ⟨y, hy⟩ : ∃ y, l.getD j 0 = y := ⟨_, rfl⟩
      rw [hy] at e1
      by_cases hxy : x = y
      · have hin : x ∈ l := by
          rw [hxy, ← hy, List.getD_eq_getElem?_getD, List.getElem?_eq_getElem hjl]
          exact List.getElem_mem hjl
        have HA := Lib.hid hin
        subst hxy
        clear hc hy HJ hjl hin
        go_wp2_with fail
        go_ret
        exact ⟨⟨_, rfl, fun _ => HA.out, fun _ => by omega⟩, rfl⟩
      · have HJ2 : Hid (∀ i, i < j + 1 → l.getD i 0 ≠ x) := Lib.hid fun i hi => by
          rcases Nat.lt_or_ge i j with h | h
          · exact HJ.out i h
          · obtain rfl : i = j := by omega
            rw [hy]; exact fun e => hxy e.symm
        clear hc hy HJ hjl
        go_wp2_with fail
        go_roundw
        case rel => exact ⟨j + 1, _, rfl, by trivial, by omega, by go_num, HJ2⟩
        case measure => simp [RowKit.intOf]; omega
    · have d1 : (n : Int) ≤ (j : Int) := by omega
      have hnot : x ∉ l := fun hx => by
        obtain ⟨i, hi, rfl⟩ := List.getElem_of_mem hx
        have := HJ.out i (by have := HN.out; omega)
        rw [List.getD_eq_getElem?_getD, List.getElem?_eq_getElem hi] at this
        exact this rfl
      have HA := Lib.hid hnot
      clear HJ hnot
      go_wp2_with fail
      go_ret
      exact ⟨⟨_, rfl, fun h => absurd h (by omega), fun h => absurd h HA.out⟩, rfl⟩

theorem iContains8 (x : Int) (b : Option Addr) (cap : Nat) (l : List Int) (W : World) (hi : IntsL W b l) :
    Calls Try.prog 92 #[.slice b l.length cap, .int .i64 x] W fun e w' => e = .returned (.bool (decide (x ∈ l))) ∧ W = w' := by
  have C := Lib.hid (iIndex8 x b cap l W hi)
  obtain ⟨n, hn⟩ : ∃ n, l.length = n := ⟨_, rfl⟩
  rw [hn] at C
  rw [hn]
  clear hi hn
  by_cases hx : x ∈ l
  · rw [decide_eq_true hx]
    have HX := Lib.hid hx
    clear hx
    go_enter Try.func92, Try.ntmps92
    go_wp2_with (go_at_call 104; refine C.out.mono ?_; rintro e w' ⟨⟨i, rfl, hi⟩, rfl⟩; have hi0 : (0 : Int) ≤ i := hi.2 HX.out; clear hi)
    go_ret
    exact ⟨rfl, rfl⟩
  · rw [decide_eq_false hx]
    have HX := Lib.hid hx
    clear hx
    go_enter Try.func92, Try.ntmps92
    go_wp2_with (go_at_call 104; refine C.out.mono ?_; rintro e w' ⟨⟨i, rfl, hi⟩, rfl⟩; have hi0 : i < (0 : Int) := Int.not_le.1 fun h => HX.out (hi.1 h); clear hi)
    go_ret
    refine ⟨?_, rfl⟩
    show Ending.returned (.bool (decide (0 ≤ i))) = _
    rw [decide_eq_false (by omega)]

end Go.Proofs.Ytdbanlifneomgaa
