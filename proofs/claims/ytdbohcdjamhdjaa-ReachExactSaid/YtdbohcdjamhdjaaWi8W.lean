import Derived.Test.YtdbohcdjamhdjaaCc8W
import Derived.Test.YtdbohcdjamhdjaaRsl8W
import Derived.Test.YtdbohcdjamhdjaaV6
/- Package tree's step.with. -/
set_option linter.unusedVariables false
namespace Go.Proofs.Ytdbohcdjamhdjaa
open Go.RowKit

theorem psTake {W : World} {a : Option Addr} {ps : Pairs} (h : IsPs W a ps) (i : Nat) : IsPs W a (ps.take i) := by
  refine ⟨Nat.le_trans (by rw [List.length_take]; omega) h.len, fun p hp => h.fits p (List.mem_of_mem_take hp), fun hp => ?_⟩
  rw [List.length_take] at hp
  obtain ⟨b, off, e, hb, hc⟩ := h.cells (by omega)
  refine ⟨b, off, e, hb, fun j hj => ?_⟩
  rw [List.length_take] at hj
  have := hc j (by omega)
  rw [keyAt_get (by rw [List.length_take]; omega), valAt_get (by rw [List.length_take]; omega), List.getElem_take]
  rw [keyAt_get (by omega), valAt_get (by omega)] at this
  exact this
theorem psDrop {W : World} {g : Nat} {ps : Pairs} (h : IsPs W (some ⟨g, 0, none⟩) ps) (i off : Nat) (ho : i < ps.length → off = i * 2) : IsPs W (some ⟨g, off, none⟩) (ps.drop i) := by
  refine ⟨Nat.le_trans (by rw [List.length_drop]; omega) h.len, fun p hp => h.fits p (List.mem_of_mem_drop hp), fun hp => ?_⟩
  rw [List.length_drop] at hp
  obtain ⟨b, off', e, hb, hc⟩ := h.cells (by omega)
  simp only [Option.some.injEq, Addr.mk.injEq, and_true] at e
  obtain ⟨rfl, rfl⟩ := e
  refine ⟨g, off, rfl, hb, fun j hj => ?_⟩
  rw [List.length_drop] at hj
  have := hc (i + j) (by omega)
  rw [keyAt_get (by rw [List.length_drop]; omega), valAt_get (by rw [List.length_drop]; omega), List.getElem_drop]
  rw [keyAt_get (by omega), valAt_get (by omega)] at this
  rw [ho (by omega), show i * 2 + j * 2 = 0 + (i + j) * 2 by omega]
  exact this

/-- A list that is laid in: what its slice is where it is empty. -/
def EmpOk (a : Option Addr) (n cap : Nat) : Prop := n = 0 → a = none ∧ cap = 0 ∨ ∃ g off, a = some ⟨g, off, none⟩

/-- A node with other pairs. -/
def WithS (w : World) (lv : Int) (qs : Pairs) (e : Ending) (w' : World) : Prop :=
  ∃ a cap, e = .returned (leafV lv a qs.length cap) ∧ w'.ownsRow w.heap.size 82 2 (.slice a qs.length cap) qs.length (cellsP qs) ∧ KeptIn (· < w.heap.size) w w'

/-- Slices of a row. -/
def three {α : Type} (x y z : α) : Nat → α
  | 0 => x
  | 1 => y
  | _ => z
theorem catP_three (x y z : Pairs) : catP (three x y z) 3 = x ++ y ++ z := by simp [catP, List.range, List.range.loop, three]

theorem p3_new {V : World} {a1 a2 a3 : Option Addr} {c1 c2 c3 : Nat} {p1 p2 p3 : Pairs} (h1 : IsPs V a1 p1) (h2 : IsPs V a2 p2) (h3 : IsPs V a3 p3) (l1 : p1.length ≤ 1000) (l2 : p2.length ≤ 1000) (l3 : p3.length ≤ 1000) (e1 : EmpOk a1 p1.length c1) (e2 : EmpOk a2 p2.length c2) (e3 : EmpOk a3 p3.length c3) :
    P3 (V.alloc (.cells #[.slice a1 p1.length c1, .slice a2 p2.length c2, .slice a3 p3.length c3] 25)) V.heap.size (three a1 a2 a3) (three c1 c2 c3) (three p1 p2 p3) := by
  have hk : KeptIn (· < V.heap.size) V (V.alloc (.cells #[.slice a1 p1.length c1, .slice a2 p2.length c2, .slice a3 p3.length c3] 25)) := (KeptIn.refl _ V).alloc (fun _ h => h) _
  have hb := heap_alloc_new V (.cells #[.slice a1 p1.length c1, .slice a2 p2.length c2, .slice a3 p3.length c3] 25)
  refine ⟨by simp, fun i hi => ?_⟩
  rcases (by omega : i = 0 ∨ i = 1 ∨ i = 2) with rfl | rfl | rfl
  · exact ⟨(cell_of_row _ _ 0 _ _ _ hb).trans rfl, h1.old hk, l1, e1⟩
  · exact ⟨(cell_of_row _ _ 1 _ _ _ hb).trans rfl, h2.old hk, l2, e2⟩
  · exact ⟨(cell_of_row _ _ 2 _ _ _ hb).trans rfl, h3.old hk, l3, e3⟩

theorem wi_facts2 {W V : World} {x n cap fr to n9 c9 : Nat} {lv : Int} {a a9 : Option Addr} (hst : W.heap[x]? = some (.cells #[.int .i64 lv, .slice a n cap, .int .i64 (fr : Int), .int .i64 (to : Int)] 109 (0, 0))) (hk : KeptIn (· < W.heap.size) W V) :
    ((V.setCell ⟨x + 1, 0, none⟩ (.int .i64 lv)).setCell ⟨x + 1, 1, none⟩ (.slice a9 n9 c9)).cell? ⟨x, 0, none⟩ = some (.int .i64 lv) ∧ ((V.setCell ⟨x + 1, 0, none⟩ (.int .i64 lv)).setCell ⟨x + 1, 1, none⟩ (.slice a9 n9 c9)).cell? ⟨x, 1, none⟩ = some (.slice a n cap) ∧
      ((V.setCell ⟨x + 1, 0, none⟩ (.int .i64 lv)).setCell ⟨x + 1, 1, none⟩ (.slice a9 n9 c9)).cell? ⟨x, 2, none⟩ = some (.int .i64 (fr : Int)) ∧ ((V.setCell ⟨x + 1, 0, none⟩ (.int .i64 lv)).setCell ⟨x + 1, 1, none⟩ (.slice a9 n9 c9)).cell? ⟨x, 3, none⟩ = some (.int .i64 (to : Int)) := by
  have h1 := (hk.block x (Array.getElem?_eq_some_iff.1 hst).1).trans hst
  have h : ((V.setCell ⟨x + 1, 0, none⟩ (.int .i64 lv)).setCell ⟨x + 1, 1, none⟩ (.slice a9 n9 c9)).heap[x]? = _ := (heap_setCell_other _ _ _ _ (by simp)).trans ((heap_setCell_other _ _ _ _ (by simp)).trans h1)
  generalize ((V.setCell ⟨x + 1, 0, none⟩ (.int .i64 lv)).setCell ⟨x + 1, 1, none⟩ (.slice a9 n9 c9)) = V9 at h ⊢
  exact ⟨by simp [World.cell?, h], by simp [World.cell?, h], by simp [World.cell?, h], by simp [World.cell?, h]⟩
theorem row_weaken {W : World} {B B' n : Nat} {v : Value} {xs : List Value} (h : W.ownsRow B 82 2 v n xs) (hB : B' ≤ B) : W.ownsRow B' 82 2 v n xs := by
  refine ⟨h.1, ?_⟩
  rcases h.2 with h1 | ⟨g, cap, cur, rfl, hg, r⟩
  · exact .inl h1
  · exact .inr ⟨g, cap, cur, rfl, Nat.le_trans hB hg, r⟩


/-- What the walk needs of a world. -/
theorem wi_facts {W V : World} {x n cap fr to : Nat} {lv : Int} {a : Option Addr} (hst : W.heap[x]? = some (.cells #[.int .i64 lv, .slice a n cap, .int .i64 (fr : Int), .int .i64 (to : Int)] 109 (0, 0))) (hk : KeptIn (· < W.heap.size) W V) :
    V.cell? ⟨x, 0, none⟩ = some (.int .i64 lv) ∧ V.cell? ⟨x, 1, none⟩ = some (.slice a n cap) ∧ V.cell? ⟨x, 2, none⟩ = some (.int .i64 (fr : Int)) ∧ V.cell? ⟨x, 3, none⟩ = some (.int .i64 (to : Int)) := by
  have h := (hk.block x (Array.getElem?_eq_some_iff.1 hst).1).trans hst
  exact ⟨by simp [World.cell?, h], by simp [World.cell?, h], by simp [World.cell?, h], by simp [World.cell?, h]⟩

set_option maxRecDepth 100000 in
set_option maxHeartbeats 1000000 in
theorem trWith (lv : Int) (g cap fr to al : Nat) (aL : Option Addr) (ps xs : Pairs) (w : World) (h : IsPs w (some ⟨g, 0, none⟩) ps) (hc : CapOk (some ⟨g, 0, none⟩) ps.length cap) (hf : fr ≤ to) (ht : to ≤ ps.length) (hl : ps.length ≤ 1000) (hL : IsPs w aL xs) (hl2 : xs.length ≤ 1000) (hE : EmpOk aL xs.length al) :
    Calls Try.prog 54 #[stepV lv (some ⟨g, 0, none⟩) ps.length cap fr to, .slice aL xs.length al] w (WithS w lv (ps.take fr ++ xs ++ ps.drop to)) := by
  obtain ⟨a, ha⟩ : ∃ a : Option Addr, a = some ⟨g, 0, none⟩ := ⟨_, rfl⟩
  obtain ⟨n, hn⟩ : ∃ n, ps.length = n := ⟨_, rfl⟩
  rw [← ha, hn]
  obtain ⟨W, hW⟩ : ∃ W, (w.alloc (.cells #[.int .i64 lv, .slice a n cap, .int .i64 (fr : Int), .int .i64 (to : Int)] 109)).alloc (.cells #[.int .i64 0, .slice none 0 0] 27) = W := ⟨_, rfl⟩
  have hkW : KeptIn (· < w.heap.size) w W := by rw [← hW]; exact ((KeptIn.refl _ w).alloc (fun _ h => h) _).alloc (fun _ h => h) _
  obtain ⟨x, hx⟩ : ∃ x, w.heap.size = x := ⟨_, rfl⟩
  have hst : W.heap[x]? = some (.cells #[.int .i64 lv, .slice a n cap, .int .i64 (fr : Int), .int .i64 (to : Int)] 109 (0, 0)) := by
    rw [← hW, ← hx]
    exact (Lib.alloc_old _ _ _ (by simp)).trans (heap_alloc_new _ _)
  have hbl : BoxL (x + 1) 0 none 0 0 W := by
    rw [← hW, ← hx, show w.heap.size + 1 = (w.alloc (.cells #[.int .i64 lv, .slice a n cap, .int .i64 (fr : Int), .int .i64 (to : Int)] 109)).heap.size by simp]
    exact heap_alloc_new _ _
  obtain ⟨q0, q1, q2, q3⟩ := wi_facts (V := W.drew) hst (KeptIn.refl _ _).drew
  have s1 : (0 : Int) ≤ (fr : Int) := by omega
  have s2 : (fr : Int) ≤ (cap : Int) := by have := hc.1; omega
  have s3 : (0 : Int) ≤ (to : Int) := by omega
  have s4 : (to : Int) ≤ (n : Int) := by omega
  obtain ⟨m, hm⟩ : ∃ m, xs.length = m := ⟨_, rfl⟩
  obtain ⟨off, hoff⟩ : ∃ off, (if cap = to then 0 else to * 2) = off := ⟨_, rfl⟩
  have hp3 : IsPs w (some ⟨g, off, none⟩) (ps.drop to) := psDrop h to off fun hlt => by
    rw [← hoff, if_neg (by have := hc.1; omega)]
  obtain ⟨R, hR⟩ : ∃ R, ps.take fr ++ xs ++ ps.drop to = R := ⟨_, rfl⟩
  rw [hR]
  have CC : Hid (Calls Try.prog 74 #[.slice (some ⟨W.heap.size, 0, none⟩) 3 3] (W.alloc (.cells #[.slice (some ⟨g, 0, none⟩) fr cap, .slice aL m al, .slice (some ⟨g, off, none⟩) (n - to) (cap - to)] 25)).drew (CatS (W.alloc (.cells #[.slice (some ⟨g, 0, none⟩) fr cap, .slice aL m al, .slice (some ⟨g, off, none⟩) (n - to) (cap - to)] 25)).drew R)) := Lib.hid (by
    have := pConcat W.heap.size _ _ _ _ ((p3_new (c1 := cap) (c2 := al) (c3 := cap - to) (psTake (h.old hkW) fr) (hL.old hkW) (hp3.old hkW) (by rw [List.length_take]; omega) hl2 (by rw [List.length_drop]; omega) (fun _ => .inr ⟨g, 0, rfl⟩) hE (fun _ => .inr ⟨g, off, rfl⟩)).old (KeptIn.refl _ _).drew)
    rw [catP_three, List.length_take, List.length_drop, hm, hn, show min fr n = fr by omega, hR] at this
    exact this)
  have HF : Hid (∀ c V, KeptIn (· < (W.alloc c).drew.heap.size) (W.alloc c).drew V → BoxL (x + 1) 0 none 0 0 V ∧ KeptIn (· < w.heap.size) w V ∧ w.heap.size ≤ (W.alloc c).drew.heap.size ∧ x + 1 < (W.alloc c).drew.heap.size) := Lib.hid fun c V hV => by
    have hk1 : KeptIn (· < W.heap.size) W (W.alloc c).drew := ((KeptIn.refl _ _).alloc (fun _ h => h) _).drew
    have hk2 := hk1.go hV
    exact ⟨hbl.kept hk2 hbl.lt, hkW.go hk2, Nat.le_trans hkW.size hk1.size, Nat.lt_of_lt_of_le hbl.lt hk1.size⟩
  have H := Lib.hid (And.intro hst (And.intro hbl (And.intro hkW (And.intro hn hm))))
  have HW := Lib.hid hW
  have HK2 := Lib.hid fun V n9 c9 (hk : KeptIn (· < W.heap.size) W V) a9 => wi_facts2 (a9 := a9) (n9 := n9) (c9 := c9) hst hk
  have HK := Lib.hid fun V (hk : KeptIn (· < W.heap.size) W V) => wi_facts (V := V) hst hk
  rw [hm]
  unfold stepV
  by_cases hct : cap = to
  · rw [if_pos hct] at hoff
    subst hoff
    subst hct
    clear h hc hL hE hst hbl hkW hW hm hn hR hp3
    subst ha
    simp only [Nat.sub_self] at CC
    go_enter Try.func54, Try.ntmps54
    go_wp2_with fail
    rw [HW.out]
    go_region_held3 (fun w' => w'.cell? ⟨x, 0, none⟩ = some (.int .i64 lv) ∧ w'.cell? ⟨x, 1, none⟩ = some (.slice (some ⟨g, 0, none⟩) n cap) ∧ w'.cell? ⟨x, 2, none⟩ = some (.int .i64 (fr : Int)) ∧ w'.cell? ⟨x, 3, none⟩ = some (.int .i64 (cap : Int)))
      (first | exact ⟨q0, q1, q2, q3⟩ | exact HK.out _ (((KeptIn.refl _ _).alloc (fun _ h => h) _).drew) | exact HK.out _ ((((KeptIn.refl _ _).alloc (fun _ h => h) _).drew).go hk) | exact HK2.out _ _ _ ((((KeptIn.refl _ _).alloc (fun _ h => h) _).drew).go hk) _)
      (first | (go_at_call 74; refine CC.out.mono ?_; rintro e V ⟨v, rfl, hrow, hk⟩; obtain ⟨a9, c9, rfl, hc9⟩ := row_slice hrow; obtain ⟨hb9, hk9, hs9, hx9⟩ := HF.out _ V hk; have d0 := hb9.c0; have d1 := hb9.c1; have f0 := hb9.f0; have f1 := hb9.f1))
    all_goals
      have hset := hb9.set (lv' := lv) (a' := a9) (n' := R.length) (cap' := c9)
      have hkx := (hk9.setCell (p := ⟨x + 1, 0, none⟩) (by rw [hx]; simp) (.int .i64 lv)).setCell (p := ⟨x + 1, 1, none⟩) (by rw [hx]; simp) (.slice a9 R.length c9)
      have hrow2 := rowS_block (w' := (V.setCell ⟨x + 1, 0, none⟩ (.int .i64 lv)).setCell ⟨x + 1, 1, none⟩ (.slice a9 R.length c9)) hrow fun g' e => by
        have := (rowS_lt hrow g' e).1
        exact (heap_setCell_other _ _ _ _ (by simp; omega)).trans (heap_setCell_other _ _ _ _ (by simp; omega))
      go_wp2_with fail
      refine bodyPost_ret (results_leaf1 rfl _ _ (x + 1) _ _ _ _ rfl hset) rfl ?_
      exact ⟨a9, c9, rfl, row_weaken hrow2 hs9, hkx⟩
  · rw [if_neg hct] at hoff
    subst hoff
    clear h hc hL hE hst hbl hkW hW hm hn hR hp3
    subst ha
    go_enter Try.func54, Try.ntmps54
    go_wp2_with fail
    rw [HW.out]
    go_region_held3 (fun w' => w'.cell? ⟨x, 0, none⟩ = some (.int .i64 lv) ∧ w'.cell? ⟨x, 1, none⟩ = some (.slice (some ⟨g, 0, none⟩) n cap) ∧ w'.cell? ⟨x, 2, none⟩ = some (.int .i64 (fr : Int)) ∧ w'.cell? ⟨x, 3, none⟩ = some (.int .i64 (to : Int)))
      (first | exact ⟨q0, q1, q2, q3⟩ | exact HK.out _ (((KeptIn.refl _ _).alloc (fun _ h => h) _).drew) | exact HK.out _ ((((KeptIn.refl _ _).alloc (fun _ h => h) _).drew).go hk) | exact HK2.out _ _ _ ((((KeptIn.refl _ _).alloc (fun _ h => h) _).drew).go hk) _)
      (first | (go_at_call 74; refine CC.out.mono ?_; rintro e V ⟨v, rfl, hrow, hk⟩; obtain ⟨a9, c9, rfl, hc9⟩ := row_slice hrow; obtain ⟨hb9, hk9, hs9, hx9⟩ := HF.out _ V hk; have d0 := hb9.c0; have d1 := hb9.c1; have f0 := hb9.f0; have f1 := hb9.f1))
    all_goals
      have hset := hb9.set (lv' := lv) (a' := a9) (n' := R.length) (cap' := c9)
      have hkx := (hk9.setCell (p := ⟨x + 1, 0, none⟩) (by rw [hx]; simp) (.int .i64 lv)).setCell (p := ⟨x + 1, 1, none⟩) (by rw [hx]; simp) (.slice a9 R.length c9)
      have hrow2 := rowS_block (w' := (V.setCell ⟨x + 1, 0, none⟩ (.int .i64 lv)).setCell ⟨x + 1, 1, none⟩ (.slice a9 R.length c9)) hrow fun g' e => by
        have := (rowS_lt hrow g' e).1
        exact (heap_setCell_other _ _ _ _ (by simp; omega)).trans (heap_setCell_other _ _ _ _ (by simp; omega))
      go_wp2_with fail
      refine bodyPost_ret (results_leaf1 rfl _ _ (x + 1) _ _ _ _ rfl hset) rfl ?_
      exact ⟨a9, c9, rfl, row_weaken hrow2 hs9, hkx⟩

end Go.Proofs.Ytdbohcdjamhdjaa
