import Derived.Test.YtdbanlifneomgaaLr8Q
import Derived.Test.YtdbanlifneomgaaLf6Q
/- Package tree's childFor, stepInLeaf, isEmpty. -/
set_option linter.unusedVariables false
namespace Go.Proofs.Ytdbanlifneomgaa
open Go.RowKit

theorem run_max8 {P : Program} {w : World} (ts : Array TypeId) (t : TypeId) (k k' : IntKind) (x y : Int) : (Builtin.max_ ts t #[.int k x, .int k' y]).run P w = .ok (.int k (max x y)) w := by
  rw [run_max_int2]
  congr 2
  split <;> omega
attribute [local go_sem high] run_max8

/-- By which pair one comes to a key. -/
def kidOf (ps : Pairs) (k : Nat) : Nat := uptoK ps k - 1

theorem trChildFor (lv : Int) (a : Option Addr) (cap : Nat) (ps : Pairs) (k : Nat) (w : World) (h : IsPs w a ps) (hr : rises ps = true) :
    Calls Try.prog 50 #[leafV lv a ps.length cap, .int .u64 (k : Int)] w fun e w' => e = .returned (.int .i64 (kidOf ps k : Int)) ∧ KeptIn (· < w.heap.size) w w' := by
  have C := lfChild lv a cap ps k
  obtain ⟨W, hW⟩ : ∃ W, w.alloc (.cells #[.int .i64 lv, .slice a ps.length cap] 27) = W := ⟨_, rfl⟩
  have hkW : KeptIn (· < w.heap.size) w W := by rw [← hW]; exact (KeptIn.refl _ w).alloc (fun _ h => h) _
  have C := C W (h.old hkW) hr
  have hbl : BoxL w.heap.size lv a ps.length cap W := by rw [← hW]; exact BoxL.new w _ _ _ _
  obtain ⟨x, hx⟩ : ∃ x, w.heap.size = x := ⟨_, rfl⟩
  rw [hx] at hbl
  have hmax : max ((uptoK ps k : Int) - 1) 0 = (kidOf ps k : Int) := by unfold kidOf; omega
  obtain ⟨m, hm⟩ : ∃ m, ps.length = m := ⟨_, rfl⟩
  rw [hm] at hbl hW C ⊢
  generalize kidOf ps k = r at *
  generalize (uptoK ps k : Int) - 1 = z at *
  have c0 := hbl.c0
  have c1 := hbl.c1
  have HC := Lib.hid C
  have HK := Lib.hid hkW
  unfold leafV at *
  clear h hr C hbl hkW hm
  go_enter Try.func50, Try.ntmps50
  go_wp2_with (go_at_call 66; refine HC.out.mono ?_)
  rintro e V ⟨rfl, hk⟩
  have HV := Lib.hid (HK.out.go hk)
  clear hk
  go_wp2_with fail
  go_ret
  exact ⟨rfl, HV.out⟩

/-- A step as a value. -/
def stepV (lv : Int) (a : Option Addr) (n cap : Nat) (fr to : Nat) : Value := .agg #[.int .i64 lv, .slice a n cap, .int .i64 (fr : Int), .int .i64 (to : Int)]

theorem results_step {fn : Func} {p : Tmp} (h : fn.results = #[.cell p 109]) (tmps : Array Value) (w : World) (x : Nat) (v0 v1 v2 v3 : Value)
    (hp : tmps.getD p undef = .pointer (some ⟨x, 0, none⟩)) (hb : w.heap[x]? = some (.cells #[v0, v1, v2, v3] 109 (0, 0))) : (results fn tmps).run Try.prog w = .ok (.agg #[v0, v1, v2, v3]) w := by
  have c0 : w.cell? ⟨x, 0, none⟩ = some v0 := by simp [World.cell?, hb]
  have c1 : w.cell? ⟨x, 1, none⟩ = some v1 := by simp [World.cell?, hb]
  have c2 : w.cell? ⟨x, 2, none⟩ = some v2 := by simp [World.cell?, hb]
  have c3 : w.cell? ⟨x, 3, none⟩ = some v3 := by simp [World.cell?, hb]
  have hp' : tmps[p]?.getD undef = .pointer (some ⟨x, 0, none⟩) := by simpa using hp
  simp [results, h, hp', asAddr, c0, c1, c2, c3, go_sem]

theorem trEmpty (lv : Int) (a : Option Addr) (n cap fr to : Nat) (w : World) :
    Calls Try.prog 35 #[stepV lv a n cap fr to] w fun e w' => e = .returned (.bool (decide (fr = to))) ∧ KeptIn (· < w.heap.size) w w' := by
  unfold stepV
  obtain ⟨b, hb⟩ : ∃ b, decide (fr = to) = b := ⟨_, rfl⟩
  have hb' : ((fr : Int) == (to : Int)) = b := by
    rw [← hb]
    by_cases e : fr = to
    · simp [e]
    · rw [decide_eq_false e, beq_eq_false_iff_ne]; omega
  rw [hb]
  clear hb
  go_enter Try.func35, Try.ntmps35
  go_wp2_with fail
  go_ret
  exact ⟨rfl, (KeptIn.refl _ w).alloc (fun _ h => h) _⟩

theorem il_nums (r j : Nat) (hj : r + 1 = j) (h : r ≤ 1000) : wrap64 ((r : Int) + 1) = (j : Int) ∧ IntKind.i64.wrap ((r : Int) + 1) = (j : Int) := by
  refine ⟨by unfold wrap64; omega, by rw [IntKind.wrap_i64]; omega⟩
theorem belowK_le (ps : Pairs) (k : Nat) : belowK ps k ≤ ps.length := List.countP_le_length

/-- Where a step in a leaf ends. -/
def toOf (ps : Pairs) (k : Nat) : Nat := if hasK ps k then belowK ps k + 1 else belowK ps k

set_option maxRecDepth 100000 in
theorem trInLeaf (lv : Int) (a : Option Addr) (cap : Nat) (ps : Pairs) (k : Nat) (w : World) (h : IsPs w a ps) (hr : rises ps = true) (hk : k < 18446744073709551616) (hl : ps.length ≤ 1000) :
    Calls Try.prog 49 #[leafV lv a ps.length cap, .int .u64 (k : Int)] w fun e w' => e = .returned (stepV lv a ps.length cap (belowK ps k) (toOf ps k)) ∧ KeptIn (· < w.heap.size) w w' := by
  obtain ⟨W, hW⟩ : ∃ W, (w.alloc (.cells #[.int .i64 lv, .slice a ps.length cap] 27)).alloc (.cells #[.int .i64 0, .slice none 0 0, .int .i64 0, .int .i64 0] 109) = W := ⟨_, rfl⟩
  have hkW : KeptIn (· < w.heap.size) w W := by rw [← hW]; exact ((KeptIn.refl _ w).alloc (fun _ h => h) _).alloc (fun _ h => h) _
  have C := lfFind lv a cap ps k W (h.old hkW) hr hk
  obtain ⟨x, hx⟩ : ∃ x, w.heap.size = x := ⟨_, rfl⟩
  have hbl : BoxL x lv a ps.length cap W := by
    rw [← hW, ← hx]
    exact (BoxL.new w _ _ _ _).kept ((KeptIn.refl _ _).alloc (fun _ h => h) _) (by simp)
  have hst : W.heap[x + 1]? = some (.cells #[.int .i64 0, .slice none 0 0, .int .i64 0, .int .i64 0] 109 (0, 0)) := by
    rw [← hW, ← hx, show w.heap.size + 1 = (w.alloc (.cells #[.int .i64 lv, .slice a ps.length cap] 27)).heap.size by simp]
    exact heap_alloc_new _ _
  obtain ⟨j, hj⟩ : ∃ j, belowK ps k + 1 = j := ⟨_, rfl⟩
  obtain ⟨n1, n2⟩ := il_nums _ j hj (Nat.le_trans (belowK_le ps k) hl)
  unfold toOf
  rw [hj]
  obtain ⟨m, hm⟩ : ∃ m, ps.length = m := ⟨_, rfl⟩
  rw [hm] at hbl hW C ⊢
  generalize belowK ps k = r at *
  generalize hasK ps k = b at *
  have c0 := hbl.c0
  have c1 := hbl.c1
  have HC := Lib.hid C
  have HWB := Lib.hid (And.intro hkW (And.intro hbl hst))
  unfold leafV stepV at *
  clear h hr C hbl hkW hm hst hj hk hl
  cases b
  · rw [if_neg (by decide)]
    clear n1 n2
    go_enter Try.func49, Try.ntmps49
    go_wp2_with (go_at_call 58; refine HC.out.mono ?_)
    rintro e V ⟨rfl, hk⟩
    have hbV := HWB.out.2.1.kept hk HWB.out.2.1.lt
    have hsV := (hk.block (x + 1) (Array.getElem?_eq_some_iff.1 HWB.out.2.2).1).trans HWB.out.2.2
    have q0 := hbV.c0
    have q1 := hbV.c1
    have r0 : V.cell? ⟨x + 1, 0, none⟩ = some (.int .i64 0) := by simp [World.cell?, hsV]
    have r1 : V.cell? ⟨x + 1, 1, none⟩ = some (.slice none 0 0) := by simp [World.cell?, hsV]
    have r2 : V.cell? ⟨x + 1, 2, none⟩ = some (.int .i64 0) := by simp [World.cell?, hsV]
    have r3 : V.cell? ⟨x + 1, 3, none⟩ = some (.int .i64 0) := by simp [World.cell?, hsV]
    have f0 : V.frozen? ⟨x + 1, 0, none⟩ = false := by simp [World.frozen?, hsV]
    have f1 : V.frozen? ⟨x + 1, 1, none⟩ = false := by simp [World.frozen?, hsV]
    have f2 : V.frozen? ⟨x + 1, 2, none⟩ = false := by simp [World.frozen?, hsV]
    have f3 : V.frozen? ⟨x + 1, 3, none⟩ = false := by simp [World.frozen?, hsV]
    have HV := Lib.hid (And.intro (HWB.out.1.go hk) hsV)
    clear hbV hsV hk
    go_wp2_with fail
    have s1 : (V.setCell ⟨x + 1, 0, none⟩ (.int .i64 lv)).heap[x + 1]? = _ := heap_setCell_same _ _ _ _ _ _ HV.out.2
    have s2 : ((V.setCell ⟨x + 1, 0, none⟩ (.int .i64 lv)).setCell ⟨x + 1, 1, none⟩ (.slice a m cap)).heap[x + 1]? = _ := heap_setCell_same _ _ _ _ _ _ s1
    have s3 : (((V.setCell ⟨x + 1, 0, none⟩ (.int .i64 lv)).setCell ⟨x + 1, 1, none⟩ (.slice a m cap)).setCell ⟨x + 1, 2, none⟩ (.int .i64 (r : Int))).heap[x + 1]? = _ := heap_setCell_same _ _ _ _ _ _ s2
    have s4 : ((((V.setCell ⟨x + 1, 0, none⟩ (.int .i64 lv)).setCell ⟨x + 1, 1, none⟩ (.slice a m cap)).setCell ⟨x + 1, 2, none⟩ (.int .i64 (r : Int))).setCell ⟨x + 1, 3, none⟩ (.int .i64 (r : Int))).heap[x + 1]? = _ := heap_setCell_same _ _ _ _ _ _ s3
    have hkF := (((HV.out.1.setCell (p := ⟨x + 1, 0, none⟩) (by rw [hx]; simp) (.int .i64 lv)).setCell (p := ⟨x + 1, 1, none⟩) (by rw [hx]; simp) (.slice a m cap)).setCell (p := ⟨x + 1, 2, none⟩) (by rw [hx]; simp) (.int .i64 (r : Int))).setCell (p := ⟨x + 1, 3, none⟩) (by rw [hx]; simp) (.int .i64 (r : Int))
    refine bodyPost_ret (results_step rfl _ _ (x + 1) _ _ _ _ rfl s4) rfl ?_
    exact ⟨rfl, hkF⟩
  · rw [if_pos rfl]
    go_enter Try.func49, Try.ntmps49
    go_wp2_with (go_at_call 58; refine HC.out.mono ?_)
    rintro e V ⟨rfl, hk⟩
    have hbV := HWB.out.2.1.kept hk HWB.out.2.1.lt
    have hsV := (hk.block (x + 1) (Array.getElem?_eq_some_iff.1 HWB.out.2.2).1).trans HWB.out.2.2
    have q0 := hbV.c0
    have q1 := hbV.c1
    have r0 : V.cell? ⟨x + 1, 0, none⟩ = some (.int .i64 0) := by simp [World.cell?, hsV]
    have r1 : V.cell? ⟨x + 1, 1, none⟩ = some (.slice none 0 0) := by simp [World.cell?, hsV]
    have r2 : V.cell? ⟨x + 1, 2, none⟩ = some (.int .i64 0) := by simp [World.cell?, hsV]
    have r3 : V.cell? ⟨x + 1, 3, none⟩ = some (.int .i64 0) := by simp [World.cell?, hsV]
    have f0 : V.frozen? ⟨x + 1, 0, none⟩ = false := by simp [World.frozen?, hsV]
    have f1 : V.frozen? ⟨x + 1, 1, none⟩ = false := by simp [World.frozen?, hsV]
    have f2 : V.frozen? ⟨x + 1, 2, none⟩ = false := by simp [World.frozen?, hsV]
    have f3 : V.frozen? ⟨x + 1, 3, none⟩ = false := by simp [World.frozen?, hsV]
    have HV := Lib.hid (And.intro (HWB.out.1.go hk) hsV)
    clear hbV hsV hk
    go_wp2_with fail
    have s1 : (V.setCell ⟨x + 1, 0, none⟩ (.int .i64 lv)).heap[x + 1]? = _ := heap_setCell_same _ _ _ _ _ _ HV.out.2
    have s2 : ((V.setCell ⟨x + 1, 0, none⟩ (.int .i64 lv)).setCell ⟨x + 1, 1, none⟩ (.slice a m cap)).heap[x + 1]? = _ := heap_setCell_same _ _ _ _ _ _ s1
    have s3 : (((V.setCell ⟨x + 1, 0, none⟩ (.int .i64 lv)).setCell ⟨x + 1, 1, none⟩ (.slice a m cap)).setCell ⟨x + 1, 2, none⟩ (.int .i64 (r : Int))).heap[x + 1]? = _ := heap_setCell_same _ _ _ _ _ _ s2
    have s4 : ((((V.setCell ⟨x + 1, 0, none⟩ (.int .i64 lv)).setCell ⟨x + 1, 1, none⟩ (.slice a m cap)).setCell ⟨x + 1, 2, none⟩ (.int .i64 (r : Int))).setCell ⟨x + 1, 3, none⟩ (.int .i64 (j : Int))).heap[x + 1]? = _ := heap_setCell_same _ _ _ _ _ _ s3
    have hkF := (((HV.out.1.setCell (p := ⟨x + 1, 0, none⟩) (by rw [hx]; simp) (.int .i64 lv)).setCell (p := ⟨x + 1, 1, none⟩) (by rw [hx]; simp) (.slice a m cap)).setCell (p := ⟨x + 1, 2, none⟩) (by rw [hx]; simp) (.int .i64 (r : Int))).setCell (p := ⟨x + 1, 3, none⟩) (by rw [hx]; simp) (.int .i64 (j : Int))
    refine bodyPost_ret (results_step rfl _ _ (x + 1) _ _ _ _ rfl s4) rfl ?_
    exact ⟨rfl, hkF⟩

end Go.Proofs.Ytdbanlifneomgaa
