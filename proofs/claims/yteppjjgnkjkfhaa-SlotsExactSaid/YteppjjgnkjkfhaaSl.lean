/- Package slots (layer 10): slots in memory; Index, count and what is told of them. -/
import Derived.Test.YteppjjgnkjkfhaaRf
set_option linter.unusedVariables false
namespace Go.Proofs.Yteppjjgnkjkfhaa
open Go.RowKit

/-- A slot's state as a value. -/
abbrev slV (x : Int) : Value := .int .i64 x

/-- Slots at block s, whose states are the row g. -/
structure IsSl (s g : Nat) (l : List Int) (w : World) : Prop where
  hs : w.heap[s]? = some (.cells #[.slice (some ⟨g, 0, none⟩) l.length l.length] 43 (0, 0))
  row : RowF 45 slV g l w
  le : l.length ≤ 256

section
variable {s g : Nat} {l : List Int} {w w' : World}
theorem IsSl.ne (h : IsSl s g l w) : s ≠ g := h.row.ne h.hs (by decide)
theorem IsSl.lt (h : IsSl s g l w) : s < w.heap.size := (Array.getElem?_eq_some_iff.1 h.hs).1
theorem IsSl.c0 (h : IsSl s g l w) : w.cell? ⟨s, 0, none⟩ = some (.slice (some ⟨g, 0, none⟩) l.length l.length) := by simp [World.cell?, h.hs]
theorem IsSl.kept {X : Nat → Prop} (h : IsSl s g l w) (hk : KeptIn X w w') (h1 : X s) (h2 : X g) : IsSl s g l w' := ⟨(hk.block s h1).trans h.hs, h.row.kept (hk.block g h2), h.le⟩
theorem IsSl.set (h : IsSl s g l w) (j : Nat) (x : Int) : IsSl s g (l.set j x) (w.setCell ⟨g, j, none⟩ (slV x)) :=
  ⟨by rw [heap_setCell_other _ _ _ _ h.ne, List.length_set]; exact h.hs, h.row.set j x, by rw [List.length_set]; exact h.le⟩
end

theorem sl_getD {l : List Int} {j : Nat} (h : j < l.length) : l[j]? = some (l.getD j 0) := by rw [List.getD_eq_getElem?_getD, List.getElem?_eq_getElem h]; rfl

theorem idxOf_is (l : List Int) (x : Int) : ∀ j, j < l.length → l.getD j 0 = x → (∀ i, i < j → l.getD i 0 ≠ x) → l.idxOf x = j := by
  induction l with
  | nil => intro j h; simp at h
  | cons a r ih =>
    intro j hj hx hn
    cases j with
    | zero => simp at hx; simp [hx]
    | succ j =>
      have h0 := hn 0 (by omega)
      have ha : a ≠ x := by simpa using h0
      rw [List.idxOf_cons, cond_eq_ite, if_neg (by simpa using ha), ih j (by simpa using hj) (by simpa using hx) fun i hi => by simpa using hn (i + 1) (by omega)]

/-- slices.Index at states. -/
theorem slIndex (x : Int) (g : Nat) (l : List Int) (w : World) (h : RowF 45 slV g l w) (hl : l.length ≤ 256) :
    Calls Try.prog 26 #[.slice (some ⟨g, 0, none⟩) l.length l.length, .int .i64 x] w fun e w' => e = .returned (.int .i64 (if l.idxOf x < l.length then (l.idxOf x : Int) else -1)) ∧ w = w' := by
  obtain ⟨n, hn⟩ : ∃ n, l.length = n := ⟨_, rfl⟩
  obtain ⟨r, hr⟩ : ∃ r, (if l.idxOf x < l.length then (l.idxOf x : Int) else -1) = r := ⟨_, rfl⟩
  have hm : (n : Int) ≤ 256 := by omega
  have H := Lib.hid h; have HN := Lib.hid hn; have HR := Lib.hid hr
  rw [hr, hn]
  clear h hn hl hr
  go_enter Try.func26, Try.ntmps26
  go_wp2_with fail
  go_loopw [5, 8] (fun _ c wr => ∃ (j : Nat) (V : World), V = wr ∧ wr = w ∧ j ≤ n ∧ c = .int .i64 j ∧ Hid (∀ i, i < j → l.getD i 0 ≠ x)) (fun _ c _ => n - (RowKit.intOf c).toNat)
  case atStart => exact ⟨0, _, rfl, by trivial, Nat.zero_le _, rfl, Lib.hid fun i hi => absurd hi (by omega)⟩
  case round =>
    obtain ⟨j, V, rfl, rfl, hj, rfl, HJ⟩ := hrel
    have d0 : (0 : Int) ≤ (j : Int) := by omega
    by_cases hlt : j < n
    · have d1 : (j : Int) < (n : Int) := by omega
      have hjl : j < l.length := by rw [HN.out]; exact hlt
      have e1 := H.out.cell j (sl_getD hjl)
      obtain ⟨y, hy⟩ : ∃ y, l.getD j 0 = y := ⟨_, rfl⟩
      rw [hy] at e1
      by_cases hxy : x = y
      · have hin : l.idxOf x = j := by
          exact idxOf_is l x j hjl (hy.trans hxy.symm) HJ.out
        have HA : Hid (r = (j : Int)) := Lib.hid (by rw [← HR.out, if_pos (by omega), hin])
        subst hxy
        clear hy HJ hjl hin
        go_wp2_with fail
        go_ret
        exact ⟨by rw [HA.out]; rfl, rfl⟩
      · have HJ2 : Hid (∀ i, i < j + 1 → l.getD i 0 ≠ x) := Lib.hid fun i hi => by
          rcases Nat.lt_or_ge i j with h | h
          · exact HJ.out i h
          · obtain rfl : i = j := by omega
            rw [hy]; exact fun e => hxy e.symm
        clear hy HJ hjl
        go_wp2_with fail
        go_roundw
        case rel => exact ⟨j + 1, _, rfl, by trivial, by omega, by go_num, HJ2⟩
        case measure => simp [RowKit.intOf]; omega
    · have d1 : (n : Int) ≤ (j : Int) := by omega
      have HA : Hid (r = -1) := Lib.hid (by
        rw [← HR.out, if_neg]
        intro h
        have := HJ.out _ (Nat.lt_of_lt_of_le h (by rw [HN.out]; omega))
        rw [List.getD_eq_getElem?_getD, List.getElem?_eq_getElem h] at this
        simp at this)
      clear HJ
      go_wp2_with fail
      go_ret
      exact ⟨by rw [HA.out]; rfl, rfl⟩

theorem cnt_succ (l : List Int) (x : Int) (j : Nat) (h : j < l.length) : (l.take (j + 1)).count x = (l.take j).count x + (if l.getD j 0 = x then 1 else 0) := by
  rw [List.take_succ_eq_append_getElem h, List.count_append, List.count_singleton, List.getD_eq_getElem?_getD, List.getElem?_eq_getElem h]
  simp
theorem cnt_le (l : List Int) (x : Int) (j : Nat) : (l.take j).count x ≤ j := Nat.le_trans List.count_le_length (by rw [List.length_take]; omega)

/-- count. -/
theorem slCount (x : Int) (s g : Nat) (l : List Int) (w : World) (h : IsSl s g l w) :
    Calls Try.prog 25 #[.pointer (some ⟨s, 0, none⟩), .int .i64 x] w fun e w' => e = .returned (.int .i64 (l.count x : Nat)) ∧ w = w' := by
  obtain ⟨n, hn⟩ : ∃ n, l.length = n := ⟨_, rfl⟩
  obtain ⟨r, hr⟩ : ∃ r, l.count x = r := ⟨_, rfl⟩
  have hm : (n : Int) ≤ 256 := by have := h.le; omega
  have c0 := h.c0
  have H := Lib.hid h; have HN := Lib.hid hn; have HR := Lib.hid hr
  rw [hr]
  rw [hn] at c0
  clear h hn hr
  go_enter Try.func25, Try.ntmps25
  go_wp2_with fail
  go_loopw [5, 7, 15] (fun k _ c wr => ∃ (j m : Nat) (V : World), V = wr ∧ wr = w ∧ j ≤ n ∧ m ≤ j ∧ c = .int .i64 j ∧ k = .int .i64 m ∧ Hid (m = (l.take j).count x)) (fun _ _ c _ => n - (RowKit.intOf c).toNat)
  case atStart => exact ⟨0, 0, _, rfl, by trivial, Nat.zero_le _, Nat.le_refl _, rfl, rfl, Lib.hid (by simp)⟩
  case round =>
    obtain ⟨j, m, V, rfl, rfl, hj, hmj, rfl, rfl, HJ⟩ := hrel
    have d0 : (0 : Int) ≤ (j : Int) := by omega
    by_cases hlt : j < n
    · have d1 : (j : Int) < (n : Int) := by omega
      have m0 : (0 : Int) ≤ (m : Int) := by omega
      have m1 : (m : Int) ≤ 256 := by omega
      have hjl : j < l.length := by rw [HN.out]; exact hlt
      have e1 := H.out.row.cell j (sl_getD hjl)
      have hc := cnt_succ l x j hjl
      obtain ⟨y, hy⟩ : ∃ y, l.getD j 0 = y := ⟨_, rfl⟩
      rw [hy] at e1 hc
      by_cases hxy : y = x
      · rw [if_pos hxy, ← HJ.out] at hc
        have HJ2 := Lib.hid hc.symm
        subst hxy
        clear hy HJ hjl hc
        go_wp2_with fail
        go_roundw
        case rel => exact ⟨j + 1, m + 1, _, rfl, by trivial, by omega, by omega, by go_num, by go_num, HJ2⟩
        case measure => simp [RowKit.intOf]; omega
      · rw [if_neg hxy, ← HJ.out, Nat.add_zero] at hc
        have HJ2 := Lib.hid hc.symm
        clear hy HJ hjl hc
        go_wp2_with fail
        go_roundw
        case rel => exact ⟨j + 1, m, _, rfl, by trivial, by omega, by omega, by go_num, rfl, HJ2⟩
        case measure => simp [RowKit.intOf]; omega
    · have d1 : (n : Int) ≤ (j : Int) := by omega
      have HA : Hid (r = m) := Lib.hid (by rw [← HR.out, HJ.out, List.take_of_length_le (by rw [HN.out]; omega)])
      clear HJ
      go_wp2_with fail
      go_ret
      exact ⟨by rw [HA.out]; rfl, rfl⟩

theorem slCountNil (x : Int) (w : World) : Calls Try.prog 25 #[.pointer none, .int .i64 x] w fun e w' => e = .returned (.int .i64 0) ∧ w = w' := by
  go_enter Try.func25, Try.ntmps25
  go_wp2
  go_ret
  exact ⟨rfl, rfl⟩

theorem slLen (s g : Nat) (l : List Int) (w : World) (h : IsSl s g l w) : Calls Try.prog 17 #[.pointer (some ⟨s, 0, none⟩)] w fun e w' => e = .returned (.int .i64 l.length) ∧ w = w' := by
  have c0 := h.c0
  clear h
  go_enter Try.func17, Try.ntmps17
  go_wp2
  go_ret
  exact ⟨rfl, rfl⟩

theorem slLenNil (w : World) : Calls Try.prog 17 #[.pointer none] w fun e w' => e = .returned (.int .i64 0) ∧ w = w' := by
  go_enter Try.func17, Try.ntmps17
  go_wp2
  go_ret
  exact ⟨rfl, rfl⟩

theorem slFree (s g : Nat) (l : List Int) (w : World) (h : IsSl s g l w) : Calls Try.prog 18 #[.pointer (some ⟨s, 0, none⟩)] w fun e w' => e = .returned (.int .i64 (l.count 0 : Nat)) ∧ w = w' := by
  have H := Lib.hid (slCount 0 s g l w h)
  clear h
  go_enter Try.func18, Try.ntmps18
  go_wp2_with (go_at_call 25; refine H.out.mono ?_; rintro e w' ⟨rfl, rfl⟩)
  go_ret
  exact ⟨rfl, rfl⟩

theorem slFreeNil (w : World) : Calls Try.prog 18 #[.pointer none] w fun e w' => e = .returned (.int .i64 0) ∧ w = w' := by
  go_enter Try.func18, Try.ntmps18
  go_wp2_with (go_at_call 25; refine (slCountNil 0 w).mono ?_; rintro e w' ⟨rfl, rfl⟩)
  go_ret
  exact ⟨rfl, rfl⟩

theorem slWaits (s g : Nat) (l : List Int) (w : World) (h : IsSl s g l w) : Calls Try.prog 20 #[.pointer (some ⟨s, 0, none⟩)] w fun e w' => e = .returned (.int .i64 (l.count 3 : Nat)) ∧ w = w' := by
  have H := Lib.hid (slCount 3 s g l w h)
  clear h
  go_enter Try.func20, Try.ntmps20
  go_wp2_with (go_at_call 25; refine H.out.mono ?_; rintro e w' ⟨rfl, rfl⟩)
  go_ret
  exact ⟨rfl, rfl⟩

theorem slWaitsNil (w : World) : Calls Try.prog 20 #[.pointer none] w fun e w' => e = .returned (.int .i64 0) ∧ w = w' := by
  go_enter Try.func20, Try.ntmps20
  go_wp2_with (go_at_call 25; refine (slCountNil 3 w).mono ?_; rintro e w' ⟨rfl, rfl⟩)
  go_ret
  exact ⟨rfl, rfl⟩

attribute [local go_sem high] run_max2f run_min2f

theorem slRoom (s g : Nat) (l : List Int) (w : World) (h : IsSl s g l w) : Calls Try.prog 19 #[.pointer (some ⟨s, 0, none⟩)] w fun e w' => e = .returned (.int .i64 ((l.count 0 - 1 : Nat) : Int)) ∧ w = w' := by
  have H := Lib.hid (slFree s g l w h)
  have hle : l.count 0 ≤ 256 := Nat.le_trans List.count_le_length h.le
  obtain ⟨r, hr⟩ : ∃ r, l.count 0 = r := ⟨_, rfl⟩
  rw [hr] at H hle ⊢
  have r0 : (0 : Int) ≤ (r : Int) := by omega
  have r1 : (r : Int) ≤ 256 := by omega
  clear h hr hle
  go_enter Try.func19, Try.ntmps19
  go_wp2_with (go_at_call 18; refine H.out.mono ?_; rintro e w' ⟨rfl, rfl⟩)
  go_ret
  refine ⟨?_, rfl⟩
  show Ending.returned (.int .i64 (max ((r : Int) - 1) 0)) = _
  congr 2
  omega

theorem slRoomNil (w : World) : Calls Try.prog 19 #[.pointer none] w fun e w' => e = .returned (.int .i64 0) ∧ w = w' := by
  go_enter Try.func19, Try.ntmps19
  go_wp2_with (go_at_call 18; refine (slFreeNil w).mono ?_; rintro e w' ⟨rfl, rfl⟩)
  go_ret
  exact ⟨by trivial, rfl⟩

/-- Whether a state is a used one's. -/
def slUse (x : Int) : Bool := x == 1 || x == 2

theorem slSt (x : Int) (w : World) : Calls Try.prog 24 #[.int .i64 x] w fun e w' => e = .returned (.bool (slUse x)) ∧ w = w' := by
  by_cases h1 : x = 1
  · subst h1
    go_enter Try.func24, Try.ntmps24
    go_wp2
    go_ret
    exact ⟨rfl, rfl⟩
  · go_enter Try.func24, Try.ntmps24
    go_wp2
    go_ret
    exact ⟨rfl, rfl⟩

/-- Whether there is such a slot. -/
def slIn (n : Nat) (i : Int) : Bool := decide (0 ≤ i) && decide (i < n)

theorem slHas (i : Int) (s g : Nat) (l : List Int) (w : World) (h : IsSl s g l w) : Calls Try.prog 23 #[.pointer (some ⟨s, 0, none⟩), .int .i64 i] w fun e w' => e = .returned (.bool (slIn l.length i)) ∧ w = w' := by
  have c0 := h.c0
  obtain ⟨n, hn⟩ : ∃ n, l.length = n := ⟨_, rfl⟩
  rw [hn] at c0 ⊢
  clear h hn
  by_cases h0 : 0 ≤ i
  · by_cases h1 : i < n
    · have e : slIn n i = true := by simp [slIn, h0, h1]
      rw [e]
      clear e
      go_enter Try.func23, Try.ntmps23
      go_wp2
      go_ret
      exact ⟨rfl, rfl⟩
    · have e : slIn n i = false := by simp [slIn]; omega
      rw [e]
      clear e
      go_enter Try.func23, Try.ntmps23
      go_wp2
      go_ret
      exact ⟨rfl, rfl⟩
  · have e : slIn n i = false := by simp [slIn]; omega
    rw [e]
    clear e
    go_enter Try.func23, Try.ntmps23
    go_wp2
    go_ret
    exact ⟨rfl, rfl⟩

end Go.Proofs.Yteppjjgnkjkfhaa
