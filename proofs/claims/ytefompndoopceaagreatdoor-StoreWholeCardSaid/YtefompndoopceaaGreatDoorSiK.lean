import Derived.Test.YtefompndoopceaaGreatDoorSkK
/- Which pages may be committed: slices.ContainsFunc and slices.Contains at integers; a store's inUse, leadsToOneOf. -/
set_option linter.unusedVariables false
namespace Go.Proofs.YtefompndoopceaaGreatDoor
open Go.RowKit

/-- A page that is new or committed. -/
def usedB (P : List Pag) (x : Int) : Bool := holdsB P.length x && decide (stOf P x.toNat ≠ 0)

theorem stInUse1 (A : Ad) (h : Hd) (a : Nat) (P : List Pag) (B : Nat) (x : Int) (W : World) (k : StAt A h a P W) (hb : W.heap[B]? = some (.cells #[.pointer (some ⟨A.st, 0, none⟩)] 27 (0, 0))) :
    Calls Tryz.prog 88 #[.int .i64 x, .pointer (some ⟨B, 0, none⟩)] W fun e w' => e = .returned (.bool (!usedB P x)) ∧ W = w' := by
  have CH := stHolds A h a P x W k
  have cb : W.cell? ⟨B, 0, none⟩ = some (.pointer (some ⟨A.st, 0, none⟩)) := by simp [World.cell?, hb]
  have c7 := k.c7
  unfold usedB
  cases hh : holdsB P.length x with
  | false =>
    rw [hh] at CH
    have HCH := Lib.hid CH
    rw [Bool.false_and, Bool.not_false]
    clear CH k hb hh c7
    go_enter Tryz.func88, Tryz.ntmps88
    go_wp2_with (go_at_call 50; refine HCH.out.mono ?_; rintro e w' ⟨rfl, rfl⟩)
    go_ret
    exact ⟨rfl, rfl⟩
  | true =>
    rw [hh] at CH
    have HCH := Lib.hid CH
    have hq : ∃ q : Nat, x = (q : Int) ∧ q < P.length := by
      unfold holdsB at hh
      simp only [Bool.and_eq_true, decide_eq_true_eq] at hh
      exact ⟨x.toNat, by omega, by omega⟩
    obtain ⟨q, rfl, hqn⟩ := hq
    obtain ⟨e1, e2⟩ := k.at q hqn
    rw [Bool.true_and, show ((q : Int)).toNat = q by omega]
    obtain ⟨n, hn⟩ : ∃ n, P.length = n := ⟨_, rfl⟩
    rw [hn] at c7 hqn
    have b0 : (0 : Int) ≤ (q : Int) := by omega
    have b1 : (q : Int) < (n : Int) := by omega
    obtain ⟨sq, hsq⟩ : ∃ sq, stOf P q = sq := ⟨_, rfl⟩
    rw [hsq] at e1 ⊢
    by_cases h0 : sq = 0
    · subst h0
      rw [show (!decide ((0 : Nat) ≠ 0)) = true by decide]
      clear CH k hb hh hn hsq e2
      go_enter Tryz.func88, Tryz.ntmps88
      go_wp2_with (go_at_call 50; refine HCH.out.mono ?_; rintro e w' ⟨rfl, rfl⟩)
      go_ret
      exact ⟨rfl, rfl⟩
    · rw [show (!decide (sq ≠ 0)) = false by simp [h0]]
      have b2 : ¬ (sq : Int) = 0 := by omega
      clear CH k hb hh hn hsq e2 h0
      go_enter Tryz.func88, Tryz.ntmps88
      go_wp2_with (go_at_call 50; refine HCH.out.mono ?_; rintro e w' ⟨rfl, rfl⟩)
      go_ret
      refine ⟨?_, rfl⟩
      show Ending.returned (.bool ((sq : Int) == 0)) = _
      rw [beq_false_of_ne b2]

/-- slices.IndexFunc with inUse's function: whether there is a page that may not be. -/
theorem iIndexF (A : Ad) (h : Hd) (a : Nat) (P : List Pag) (B : Nat) (b : Option Addr) (cap : Nat) (l : List Int) (W : World) (k : StAt A h a P W) (hb : W.heap[B]? = some (.cells #[.pointer (some ⟨A.st, 0, none⟩)] 27 (0, 0))) (hi : IntsIn A W b l) :
    Calls Tryz.prog 115 #[.slice b l.length cap, .func (.func 88) #[] #[.pointer (some ⟨B, 0, none⟩)]] W fun e w' => (∃ i : Int, e = .returned (.int .i64 i) ∧ (0 ≤ i ↔ l.all (usedB P) = false)) ∧ W = w' := by
  obtain ⟨n, hn⟩ : ∃ n, l.length = n := ⟨_, rfl⟩
  have hm : (n : Int) ≤ 9223372036854775807 := by have := hi.len; unfold maxLen at this; omega
  have C := Lib.hid (fun x => stInUse1 A h a P B x W k hb)
  have H := Lib.hid hi
  have HN := Lib.hid hn
  rw [hn]
  clear hi hn k hb
  go_enter Tryz.func115, Tryz.ntmps115
  go_wp2_with fail
  go_loopw [5, 8] (fun _ c wr => ∃ (j : Nat) (V : World), V = wr ∧ wr = W ∧ j ≤ n ∧ c = .int .i64 j ∧ Hid (∀ i, i < j → usedB P (l.getD i 0) = true)) (fun _ c _ => n - (RowKit.intOf c).toNat)
  case atStart => exact ⟨0, _, rfl, by trivial, Nat.zero_le _, rfl, Lib.hid fun i hi => absurd hi (by omega)⟩
  case round =>
    obtain ⟨j, V, rfl, rfl, hj, rfl, HJ⟩ := hrel
    have d0 : (0 : Int) ≤ (j : Int) := by omega
    by_cases hlt : j < n
    · have d1 : (j : Int) < (n : Int) := by omega
      have hjl : j < l.length := by rw [HN.out]; exact hlt
      obtain ⟨b, off, rfl, hb, _, hc⟩ := H.out.cells (by omega)
      have e1 := hc j hjl
      obtain ⟨x, hx⟩ : ∃ x, l.getD j 0 = x := ⟨_, rfl⟩
      have HX := Lib.hid hx
      rw [hx] at e1
      have CX := C.out x
      cases hu : usedB P x with
      | true =>
        rw [hu] at CX
        have HCX := Lib.hid CX
        have HJ2 : Hid (∀ i, i < j + 1 → usedB P (l.getD i 0) = true) := Lib.hid fun i hi => by
          rcases Nat.lt_or_ge i j with h | h
          · exact HJ.out i h
          · obtain rfl : i = j := by omega
            rw [HX.out]; exact hu
        clear CX hc hx hu HJ hjl
        go_wp2_with (go_at_call 88; refine HCX.out.mono ?_; rintro e w' ⟨rfl, rfl⟩)
        go_roundw
        case rel => exact ⟨j + 1, _, rfl, by trivial, by omega, by go_num, HJ2⟩
        case measure => simp [RowKit.intOf]; omega
      | false =>
        rw [hu] at CX
        have HCX := Lib.hid CX
        have hall : l.all (usedB P) = false := by
          rw [List.all_eq_false]
          refine ⟨x, ?_, by rw [hu]; simp⟩
          rw [← hx, List.getD_eq_getElem?_getD, List.getElem?_eq_getElem hjl]
          exact List.getElem_mem hjl
        have HA := Lib.hid hall
        clear CX hc hx hu HJ hjl hall
        go_wp2_with (go_at_call 88; refine HCX.out.mono ?_; rintro e w' ⟨rfl, rfl⟩)
        go_ret
        exact ⟨⟨_, rfl, fun _ => HA.out, fun _ => by omega⟩, rfl⟩
    · have d1 : (n : Int) ≤ (j : Int) := by omega
      have hall : l.all (usedB P) = true := by
        rw [List.all_eq_true]
        intro x hx
        obtain ⟨i, hi, rfl⟩ := List.getElem_of_mem hx
        have := HJ.out i (by have := HN.out; omega)
        rw [List.getD_eq_getElem?_getD, List.getElem?_eq_getElem hi] at this
        exact this
      have HA := Lib.hid hall
      clear HJ hall
      go_wp2_with fail
      go_ret
      exact ⟨⟨_, rfl, fun h => absurd h (by omega), fun h => by rw [HA.out] at h; cases h⟩, rfl⟩

theorem iContainsF (A : Ad) (h : Hd) (a : Nat) (P : List Pag) (B : Nat) (b : Option Addr) (cap : Nat) (l : List Int) (W : World) (k : StAt A h a P W) (hb : W.heap[B]? = some (.cells #[.pointer (some ⟨A.st, 0, none⟩)] 27 (0, 0))) (hi : IntsIn A W b l) :
    Calls Tryz.prog 87 #[.slice b l.length cap, .func (.func 88) #[] #[.pointer (some ⟨B, 0, none⟩)]] W fun e w' => e = .returned (.bool (!l.all (usedB P))) ∧ W = w' := by
  have C := Lib.hid (iIndexF A h a P B b cap l W k hb hi)
  obtain ⟨n, hn⟩ : ∃ n, l.length = n := ⟨_, rfl⟩
  obtain ⟨u, hu⟩ : ∃ u, l.all (usedB P) = u := ⟨_, rfl⟩
  rw [hn, hu] at C
  rw [hn, hu]
  clear k hb hi hn hu
  go_enter Tryz.func87, Tryz.ntmps87
  go_wp2_with (go_at_call 115; refine C.out.mono ?_)
  rintro e V ⟨⟨i, rfl, hi⟩, rfl⟩
  by_cases h0 : 0 ≤ i
  · obtain rfl := hi.1 h0
    clear hi
    go_wp2_with fail
    go_ret
    exact ⟨rfl, rfl⟩
  · obtain rfl : u = true := by
      cases u with
      | true => rfl
      | false => exact absurd (hi.2 rfl) h0
    clear hi
    go_wp2_with fail
    go_ret
    refine ⟨?_, rfl⟩
    show Ending.returned (.bool (decide (0 ≤ i))) = _
    rw [decide_eq_false (by omega)]
    rfl

theorem stInUse (A : Ad) (h : Hd) (a : Nat) (P : List Pag) (b : Option Addr) (cap : Nat) (l : List Int) (w : World) (k : StAt A h a P w) (hi : IntsIn A w b l) :
    Calls Tryz.prog 52 #[.pointer (some ⟨A.st, 0, none⟩), .slice b l.length cap] w fun e w' => e = .returned (.bool (l.all (usedB P))) ∧ KeptIn (· < w.heap.size) w w' := by
  obtain ⟨W0, hW0⟩ : ∃ W0, w.alloc (.cells #[.pointer (some ⟨A.st, 0, none⟩)] 27) = W0 := ⟨_, rfl⟩
  have hk0 : KeptIn (· < w.heap.size) w W0 := by rw [← hW0]; exact (KeptIn.refl _ w).alloc (fun _ h => h) _
  have hb : W0.heap[w.heap.size]? = some (.cells #[.pointer (some ⟨A.st, 0, none⟩)] 27 (0, 0)) := by rw [← hW0]; exact heap_alloc_new w _
  have C := Lib.hid (iContainsF A h a P w.heap.size b cap l W0 (k.old hk0) hb (hi.old hk0))
  have HK := Lib.hid hk0
  obtain ⟨n, hn⟩ : ∃ n, l.length = n := ⟨_, rfl⟩
  obtain ⟨u, hu⟩ : ∃ u, l.all (usedB P) = u := ⟨_, rfl⟩
  rw [hn, hu] at C
  rw [hn, hu]
  have HW0 := Lib.hid hW0
  clear k hb hi hn hu hk0 hW0
  go_enter Tryz.func52, Tryz.ntmps52
  go_wp2_with (go_at_call 87; rw [HW0.out]; refine C.out.mono ?_; rintro e w' ⟨rfl, rfl⟩)
  go_ret
  exact ⟨by simp, HK.out⟩

/-- slices.Index at integers: whether a number is among them. -/
theorem iIndex (A : Ad) (x : Int) (b : Option Addr) (cap : Nat) (l : List Int) (W : World) (hi : IntsIn A W b l) :
    Calls Tryz.prog 116 #[.slice b l.length cap, .int .i64 x] W fun e w' => (∃ i : Int, e = .returned (.int .i64 i) ∧ (0 ≤ i ↔ x ∈ l)) ∧ W = w' := by
  obtain ⟨n, hn⟩ : ∃ n, l.length = n := ⟨_, rfl⟩
  have hm : (n : Int) ≤ 9223372036854775807 := by have := hi.len; unfold maxLen at this; omega
  have H := Lib.hid hi
  have HN := Lib.hid hn
  rw [hn]
  clear hi hn
  go_enter Tryz.func116, Tryz.ntmps116
  go_wp2_with fail
  go_loopw [5, 8] (fun _ c wr => ∃ (j : Nat) (V : World), V = wr ∧ wr = W ∧ j ≤ n ∧ c = .int .i64 j ∧ Hid (∀ i, i < j → l.getD i 0 ≠ x)) (fun _ c _ => n - (RowKit.intOf c).toNat)
  case atStart => exact ⟨0, _, rfl, by trivial, Nat.zero_le _, rfl, Lib.hid fun i hi => absurd hi (by omega)⟩
  case round =>
    obtain ⟨j, V, rfl, rfl, hj, rfl, HJ⟩ := hrel
    have d0 : (0 : Int) ≤ (j : Int) := by omega
    by_cases hlt : j < n
    · have d1 : (j : Int) < (n : Int) := by omega
      have hjl : j < l.length := by rw [HN.out]; exact hlt
      obtain ⟨b, off, rfl, hb, _, hc⟩ := H.out.cells (by omega)
      have e1 := hc j hjl
      obtain ⟨y, hy⟩ : ∃ y, l.getD j 0 = y := ⟨_, rfl⟩
      rw [hy] at e1
      by_cases hxy : x = y
      · have hin : x ∈ l := by
          rw [hxy, ← hy, List.getD_eq_getElem?_getD, List.getElem?_eq_getElem hjl]
          exact List.getElem_mem hjl
        have HA := Lib.hid hin
        subst hxy
        clear hc hy HJ hjl hin
        go_wp2_with fail
        go_ret
        exact ⟨⟨_, rfl, fun _ => HA.out, fun _ => by omega⟩, rfl⟩
      · have HJ2 : Hid (∀ i, i < j + 1 → l.getD i 0 ≠ x) := Lib.hid fun i hi => by
          rcases Nat.lt_or_ge i j with h | h
          · exact HJ.out i h
          · obtain rfl : i = j := by omega
            rw [hy]; exact fun e => hxy e.symm
        clear hc hy HJ hjl
        go_wp2_with fail
        go_roundw
        case rel => exact ⟨j + 1, _, rfl, by trivial, by omega, by go_num, HJ2⟩
        case measure => simp [RowKit.intOf]; omega
    · have d1 : (n : Int) ≤ (j : Int) := by omega
      have hnot : x ∉ l := fun hx => by
        obtain ⟨i, hi, rfl⟩ := List.getElem_of_mem hx
        have := HJ.out i (by have := HN.out; omega)
        rw [List.getD_eq_getElem?_getD, List.getElem?_eq_getElem hi] at this
        exact this rfl
      have HA := Lib.hid hnot
      clear HJ hnot
      go_wp2_with fail
      go_ret
      exact ⟨⟨_, rfl, fun h => absurd h (by omega), fun h => absurd h HA.out⟩, rfl⟩

theorem iContains (A : Ad) (x : Int) (b : Option Addr) (cap : Nat) (l : List Int) (W : World) (hi : IntsIn A W b l) :
    Calls Tryz.prog 89 #[.slice b l.length cap, .int .i64 x] W fun e w' => e = .returned (.bool (decide (x ∈ l))) ∧ W = w' := by
  have C := Lib.hid (iIndex A x b cap l W hi)
  obtain ⟨n, hn⟩ : ∃ n, l.length = n := ⟨_, rfl⟩
  rw [hn] at C
  rw [hn]
  clear hi hn
  by_cases hx : x ∈ l
  · rw [decide_eq_true hx]
    have HX := Lib.hid hx
    clear hx
    go_enter Tryz.func89, Tryz.ntmps89
    go_wp2_with (go_at_call 116; refine C.out.mono ?_; rintro e w' ⟨⟨i, rfl, hi⟩, rfl⟩; have hi0 : (0 : Int) ≤ i := hi.2 HX.out; clear hi)
    go_ret
    exact ⟨rfl, rfl⟩
  · rw [decide_eq_false hx]
    have HX := Lib.hid hx
    clear hx
    go_enter Tryz.func89, Tryz.ntmps89
    go_wp2_with (go_at_call 116; refine C.out.mono ?_; rintro e w' ⟨⟨i, rfl, hi⟩, rfl⟩; have hi0 : i < (0 : Int) := Int.not_le.1 fun h => HX.out (hi.1 h); clear hi)
    go_ret
    refine ⟨?_, rfl⟩
    show Ending.returned (.bool (decide (0 ≤ i))) = _
    rw [decide_eq_false (by omega)]

theorem stLeads (A : Ad) (x : Int) (b : Option Addr) (cap : Nat) (l : List Int) (W : World) (hi : IntsIn A W b l) :
    Calls Tryz.prog 53 #[.int .i64 x, .slice b l.length cap] W fun e w' => e = .returned (.bool (decide (x = 0 ∨ x ∈ l))) ∧ W = w' := by
  have C := Lib.hid (iContains A x b cap l W hi)
  obtain ⟨n, hn⟩ : ∃ n, l.length = n := ⟨_, rfl⟩
  rw [hn] at C
  rw [hn]
  clear hi hn
  by_cases h0 : x = 0
  · subst h0
    rw [decide_eq_true (.inl rfl)]
    clear C
    go_enter Tryz.func53, Tryz.ntmps53
    go_wp2
    go_ret
    exact ⟨rfl, rfl⟩
  · obtain ⟨r, hr⟩ : ∃ r, decide (x ∈ l) = r := ⟨_, rfl⟩
    rw [hr] at C
    rw [show decide (x = 0 ∨ x ∈ l) = r by rw [← hr]; simp [h0]]
    clear hr
    go_enter Tryz.func53, Tryz.ntmps53
    go_wp2_with (go_at_call 89; refine C.out.mono ?_; rintro e w' ⟨rfl, rfl⟩)
    go_ret
    refine ⟨?_, rfl⟩
    show Ending.returned (.bool (x == 0 || r)) = _
    rw [beq_false_of_ne h0, Bool.false_or]

end Go.Proofs.YtefompndoopceaaGreatDoor
