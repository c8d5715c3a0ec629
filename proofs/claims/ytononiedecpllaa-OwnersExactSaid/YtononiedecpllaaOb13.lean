/- Owners: find, just; a book in memory; what a call leaves of it. -/
import Derived.Test.YtononiedecpllaaOk13
import Derived.Test.YtononiedecpllaaUk13
set_option linter.unusedVariables false
namespace Go.Proofs.Ytononiedecpllaa
open Go.RowKit Go.Maps

set_option maxRecDepth 100000 in
theorem owFind (v : Value) (l : List Ow) (o : Ow) (B : Nat) (w : World) (h : RowO w B v l) (hs : Srt13 l) (hl : l.length ≤ 2000) :
    Calls Try.prog 23 #[v, ownV o] w fun e w' => e = .returned (.tuple #[.int .i64 (plO l o : Nat), .bool (decide (o ∈ l))]) ∧ KeptIn (· < w.heap.size) w w' := by
  obtain ⟨a, cap, rfl, _, _⟩ := h.shape
  obtain ⟨W, hW⟩ : ∃ W, w.alloc (.cells #[.int .i64 o.vol, .int .i64 o.bir, .int .i64 o.pos] 31) = W := ⟨_, rfl⟩
  have hk : KeptIn (· < w.heap.size) w W := by rw [← hW]; exact (KeptIn.refl _ w).alloc (fun _ h => h) _
  have hb : BoxO w.heap.size o W := by rw [← hW]; exact BoxO.new w o
  obtain ⟨c0, c1, c2⟩ := hb.cells
  have C := Lib.hid (owBin a cap l o B W (h.old hk) hs hl)
  obtain ⟨r, hr⟩ : ∃ r, plO l o = r := ⟨_, rfl⟩
  obtain ⟨t, ht⟩ : ∃ t, decide (o ∈ l) = t := ⟨_, rfl⟩
  rw [hr, ht] at C
  rw [hr, ht]
  unfold ownV at C ⊢
  have HK := Lib.hid hk
  have HW := Lib.hid hW
  obtain ⟨n, hn⟩ : ∃ n, l.length = n := ⟨_, rfl⟩
  rw [hn] at C ⊢
  clear h hs hl hk hb hr ht hW hn
  go_enter Try.func23, Try.ntmps23
  go_wp2_with fail
  rw [HW.out]
  go_wp2_with (go_at_call 34; refine C.out.mono ?_)
  rintro e V ⟨rfl, hk⟩
  have HX := Lib.hid (HK.out.on hk)
  clear hk C c0 c1 c2
  go_wp2_with fail
  go_ret2
  exact ⟨rfl, HX.out⟩

theorem just_nums (n : Nat) (h : ¬ n = 1) : ((n : Int) == 1) = false ∧ (n == 1) = false := ⟨by rw [beq_eq_false_iff_ne]; omega, by rw [beq_eq_false_iff_ne]; exact h⟩

set_option maxRecDepth 100000 in
theorem owJust (v : Value) (l : List Ow) (o : Ow) (B : Nat) (w : World) (h : RowO w B v l) :
    Calls Try.prog 31 #[v, ownV o] w fun e w' => e = .returned (.bool (decide (l = [o]))) ∧ KeptIn (· < w.heap.size) w w' := by
  obtain ⟨a, cap, rfl, hc1, hc2⟩ := h.shape
  obtain ⟨W, hW⟩ : ∃ W, w.alloc (.cells #[.int .i64 o.vol, .int .i64 o.bir, .int .i64 o.pos] 31) = W := ⟨_, rfl⟩
  have hk : KeptIn (· < w.heap.size) w W := by rw [← hW]; exact (KeptIn.refl _ w).alloc (fun _ h => h) _
  have hb : BoxO w.heap.size o W := by rw [← hW]; exact BoxO.new w o
  obtain ⟨c0, c1, c2⟩ := hb.cells
  have hro := h.old hk
  have HK := Lib.hid hk
  have HW := Lib.hid hW
  unfold ownV
  by_cases h1 : l.length = 1
  · obtain ⟨y, rfl⟩ := List.length_eq_one_iff.1 h1
    obtain ⟨g, rfl, hg, d0, d1, d2⟩ := hro.at (i := 0) (o := y) rfl
    obtain ⟨o1, o2, o3⟩ := o
    obtain ⟨y1, y2, y3⟩ := y
    simp only [Nat.zero_mul, Nat.zero_add] at d0 d1 d2
    dsimp only at *
    have hcap : (1 : Int) ≤ (cap : Int) := by simp at hc1; omega
    clear h hk hb hW hro h1 hg hc1 hc2
    simp only [List.length_singleton]
    rw [show decide ([(⟨y1, y2, y3⟩ : Ow)] = [⟨o1, o2, o3⟩]) = (decide (y1 = o1) && (decide (y2 = o2) && decide (y3 = o3))) by
      rw [← Bool.decide_and, ← Bool.decide_and]
      exact decide_eq_decide.2 (by simp)]
    by_cases e1 : y1 = o1
    · subst e1
      by_cases e2 : y2 = o2
      · subst e2
        by_cases e3 : y3 = o3
        · subst e3
          simp only [decide_true, Bool.and_self]
          go_enter Try.func31, Try.ntmps31
          go_wp2_with fail
          rw [HW.out]
          go_quiet (fail)
          go_wp2_with fail
          go_ret
          exact ⟨rfl, HK.out.drewN _⟩
        · have e3' : (y3 == o3) = false := by rw [beq_eq_false_iff_ne]; exact e3
          rw [decide_eq_false e3]
          simp only [Bool.and_false]
          go_enter Try.func31, Try.ntmps31
          go_wp2_with fail
          rw [HW.out]
          go_quiet (fail)
          go_wp2_with fail
          go_ret
          exact ⟨rfl, HK.out.drewN _⟩
      · have e2' : (y2 == o2) = false := by rw [beq_eq_false_iff_ne]; exact e2
        rw [decide_eq_false e2]
        simp only [Bool.and_false, Bool.false_and]
        go_enter Try.func31, Try.ntmps31
        go_wp2_with fail
        rw [HW.out]
        go_quiet (fail)
        go_wp2_with fail
        go_ret
        exact ⟨rfl, HK.out.drewN _⟩
    · have e1' : (y1 == o1) = false := by rw [beq_eq_false_iff_ne]; exact e1
      rw [decide_eq_false e1]
      simp only [Bool.false_and]
      go_enter Try.func31, Try.ntmps31
      go_wp2_with fail
      rw [HW.out]
      go_quiet (fail)
      go_wp2_with fail
      go_ret
      exact ⟨rfl, HK.out.drewN _⟩
  · have hd : decide (l = [o]) = false := decide_eq_false (fun e => h1 (by rw [e]; rfl))
    rw [hd]
    obtain ⟨n, hn⟩ : ∃ n, l.length = n := ⟨_, rfl⟩
    rw [hn] at h1 ⊢
    obtain ⟨q1, q2⟩ := just_nums n h1
    clear h hk hb hW hro hd hn hc1
    go_enter Try.func31, Try.ntmps31
    go_wp2_with fail
    rw [HW.out]
    go_quiet (fail)
    go_wp2_with fail
    go_ret
    exact ⟨rfl, HK.out.drewN _⟩

end Go.Proofs.Ytononiedecpllaa
