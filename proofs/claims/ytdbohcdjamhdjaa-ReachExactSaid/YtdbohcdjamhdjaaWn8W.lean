import Derived.Test.YtdbohcdjamhdjaaWi8W
/- Package tree's step.with, of the tree without pairs. -/
set_option linter.unusedVariables false
namespace Go.Proofs.Ytdbohcdjamhdjaa
open Go.RowKit

set_option maxRecDepth 100000 in
set_option maxHeartbeats 1000000 in
theorem trWithNil (lv : Int) (al : Nat) (aL : Option Addr) (xs : Pairs) (w : World) (hL : IsPs w aL xs) (hl2 : xs.length ≤ 1000) (hE : EmpOk aL xs.length al) :
    Calls Try.prog 54 #[stepV lv none 0 0 0 0, .slice aL xs.length al] w (WithS w lv xs) := by
  obtain ⟨n, hn⟩ : ∃ n, n = 0 := ⟨_, rfl⟩
  obtain ⟨cap, hcap⟩ : ∃ n, n = 0 := ⟨_, rfl⟩
  obtain ⟨fr, hfr⟩ : ∃ n, n = 0 := ⟨_, rfl⟩
  obtain ⟨to, hto⟩ : ∃ n, n = 0 := ⟨_, rfl⟩
  obtain ⟨a, ha⟩ : ∃ a : Option Addr, a = none := ⟨_, rfl⟩
  obtain ⟨W, hW⟩ : ∃ W, (w.alloc (.cells #[.int .i64 lv, .slice a n cap, .int .i64 (fr : Int), .int .i64 (to : Int)] 109)).alloc (.cells #[.int .i64 0, .slice none 0 0] 27) = W := ⟨_, rfl⟩
  have hkW : KeptIn (· < w.heap.size) w W := by rw [← hW]; exact ((KeptIn.refl _ w).alloc (fun _ h => h) _).alloc (fun _ h => h) _
  obtain ⟨x, hx⟩ : ∃ x, w.heap.size = x := ⟨_, rfl⟩
  have hst : W.heap[x]? = some (.cells #[.int .i64 lv, .slice a n cap, .int .i64 (fr : Int), .int .i64 (to : Int)] 109 (0, 0)) := by
    rw [← hW, ← hx]
    exact (Lib.alloc_old _ _ _ (by simp)).trans (heap_alloc_new _ _)
  have hbl : BoxL (x + 1) 0 none 0 0 W := by
    rw [← hW, ← hx, show w.heap.size + 1 = (w.alloc (.cells #[.int .i64 lv, .slice a n cap, .int .i64 (fr : Int), .int .i64 (to : Int)] 109)).heap.size by simp]
    exact heap_alloc_new _ _
  subst hn hcap hfr hto ha
  obtain ⟨q0, q1, q2, q3⟩ := wi_facts (V := W.drew) hst (KeptIn.refl _ _).drew
  obtain ⟨m, hm⟩ : ∃ m, xs.length = m := ⟨_, rfl⟩
  obtain ⟨R, hR⟩ : ∃ R, xs = R := ⟨_, rfl⟩
  have CC : Hid (Calls Try.prog 74 #[.slice (some ⟨W.heap.size, 0, none⟩) 3 3] (W.alloc (.cells #[.slice none 0 0, .slice aL m al, .slice none 0 0] 25)).drew (CatS (W.alloc (.cells #[.slice none 0 0, .slice aL m al, .slice none 0 0] 25)).drew R)) := Lib.hid (by
    have := pConcat W.heap.size _ _ _ _ ((p3_new (p1 := []) (p3 := []) (c1 := 0) (c2 := al) (c3 := 0) (IsPs.none W none) (hL.old hkW) (IsPs.none W none) (by simp) hl2 (by simp) (fun _ => .inl ⟨rfl, rfl⟩) hE (fun _ => .inl ⟨rfl, rfl⟩)).old (KeptIn.refl _ _).drew)
    rw [catP_three, hm, hR] at this
    simpa using this)
  have HF : Hid (∀ c V, KeptIn (· < (W.alloc c).drew.heap.size) (W.alloc c).drew V → BoxL (x + 1) 0 none 0 0 V ∧ KeptIn (· < w.heap.size) w V ∧ w.heap.size ≤ (W.alloc c).drew.heap.size ∧ x + 1 < (W.alloc c).drew.heap.size) := Lib.hid fun c V hV => by
    have hk1 : KeptIn (· < W.heap.size) W (W.alloc c).drew := ((KeptIn.refl _ _).alloc (fun _ h => h) _).drew
    have hk2 := hk1.go hV
    exact ⟨hbl.kept hk2 hbl.lt, hkW.go hk2, Nat.le_trans hkW.size hk1.size, Nat.lt_of_lt_of_le hbl.lt hk1.size⟩
  have HW := Lib.hid hW
  have HK2 := Lib.hid fun V n9 c9 (hk : KeptIn (· < W.heap.size) W V) a9 => wi_facts2 (a9 := a9) (n9 := n9) (c9 := c9) hst hk
  have HK := Lib.hid fun V (hk : KeptIn (· < W.heap.size) W V) => wi_facts (V := V) hst hk
  rw [hm]
  unfold stepV
  rw [hR]
  clear hL hE hst hbl hkW hW hm hR hl2
  go_enter Try.func54, Try.ntmps54
  go_wp2_with fail
  have hWx := HW.out
  simp only [Int.cast_ofNat_Int] at hWx q2 q3 HK HK2
  rw [hWx]
  clear hWx
  go_region_held3 (fun w' => w'.cell? ⟨x, 0, none⟩ = some (.int .i64 lv) ∧ w'.cell? ⟨x, 1, none⟩ = some (.slice none 0 0) ∧ w'.cell? ⟨x, 2, none⟩ = some (.int .i64 0) ∧ w'.cell? ⟨x, 3, none⟩ = some (.int .i64 0))
    (first | exact ⟨q0, q1, q2, q3⟩ | exact HK.out _ (((KeptIn.refl _ _).alloc (fun _ h => h) _).drew) | exact HK.out _ ((((KeptIn.refl _ _).alloc (fun _ h => h) _).drew).go hk) | exact HK2.out _ _ _ ((((KeptIn.refl _ _).alloc (fun _ h => h) _).drew).go hk) _)
    (first | (go_at_call 74; refine CC.out.mono ?_; rintro e V ⟨v, rfl, hrow, hk⟩; obtain ⟨a9, c9, rfl, hc9⟩ := row_slice hrow; obtain ⟨hb9, hk9, hs9, hx9⟩ := HF.out _ V hk; have d0 := hb9.c0; have d1 := hb9.c1; have f0 := hb9.f0; have f1 := hb9.f1))
  all_goals
    have hset := hb9.set (lv' := lv) (a' := a9) (n' := R.length) (cap' := c9)
    have hkx := (hk9.setCell (p := ⟨x + 1, 0, none⟩) (by rw [hx]; simp) (.int .i64 lv)).setCell (p := ⟨x + 1, 1, none⟩) (by rw [hx]; simp) (.slice a9 R.length c9)
    have hrow2 := rowS_block (w' := (V.setCell ⟨x + 1, 0, none⟩ (.int .i64 lv)).setCell ⟨x + 1, 1, none⟩ (.slice a9 R.length c9)) hrow fun g' e => by
      have := (rowS_lt hrow g' e).1
      exact (heap_setCell_other _ _ _ _ (by simp; omega)).trans (heap_setCell_other _ _ _ _ (by simp; omega))
    go_wp2_with fail
    refine bodyPost_ret (results_leaf1 rfl _ _ (x + 1) _ _ _ _ rfl hset) rfl ?_
    exact ⟨a9, c9, rfl, row_weaken hrow2 hs9, hkx⟩

end Go.Proofs.Ytdbohcdjamhdjaa
