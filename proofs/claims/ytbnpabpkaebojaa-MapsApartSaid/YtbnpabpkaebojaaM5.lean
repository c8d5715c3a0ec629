import Derived.Test.YtbnpabpkaebojaaM4
import Derived.Test.YtbnpabpkaebojaaLf6L
/- Package tree's childFor, stepInLeaf, isEmpty. -/
set_option linter.unusedVariables false
namespace Go.Proofs.Ytbnpabpkaebojaa
open Go.RowKit

theorem run_max8 {P : Program} {w : World} (ts : Array TypeId) (t : TypeId) (k k' : IntKind) (x y : Int) : (Builtin.max_ ts t #[.int k x, .int k' y]).run P w = .ok (.int k (max x y)) w := by
  rw [run_max_int2]
  congr 2
  split <;> omega
attribute [local go_sem high] run_max8

/-- By which pair one comes to a key. -/
def kidOf (ps : Pairs) (k : Nat) : Nat := uptoK ps k - 1

theorem trChildFor (lv : Int) (a : Option Addr) (cap : Nat) (ps : Pairs) (k : Nat) (w : World) (h : IsPs w a ps) (hr : rises ps = true) :
    Calls Try.prog 61 #[leafV lv a ps.length cap, .int .u64 (k : Int)] w fun e w' => e = .returned (.int .i64 (kidOf ps k : Int)) ∧ KeptIn (· < w.heap.size) w w' := by
  have C := lfChild lv a cap ps k
  obtain ⟨W, hW⟩ : ∃ W, w.alloc (.cells #[.int .i64 lv, .slice a ps.length cap] 27) = W := ⟨_, rfl⟩
  have hkW : KeptIn (· < w.heap.size) w W := by rw [← hW]; exact (KeptIn.refl _ w).alloc (fun _ h => h) _
  have C := C W (h.old hkW) hr
  have hbl : BoxL w.heap.size lv a ps.length cap W := by rw [← hW]; exact BoxL.new w _ _ _ _
  obtain ⟨x, hx⟩ : ∃ x, w.heap.size = x := ⟨_, rfl⟩
  rw [hx] at hbl
  have hmax : max ((uptoK ps k : Int) - 1) 0 = (kidOf ps k : Int) := by unfold kidOf; omega
  obtain ⟨m, hm⟩ : ∃ m, ps.length = m := ⟨_, rfl⟩
  rw [hm] at hbl hW C ⊢
  generalize kidOf ps k = r at *
  generalize (uptoK ps k : Int) - 1 = z at *
  have c0 := hbl.c0
  have c1 := hbl.c1
  have HC := Lib.hid C
  have HK := Lib.hid hkW
  unfold leafV at *
  clear h hr C hbl hkW hm
  go_enter Try.func61, Try.ntmps61
  go_wp2_with (go_at_call 78; refine HC.out.mono ?_)
  rintro e V ⟨rfl, hk⟩
  have HV := Lib.hid (HK.out.go hk)
  clear hk
  go_wp2_with fail
  go_ret
  exact ⟨rfl, HV.out⟩

/-- A step as a value. -/
def stepV (lv : Int) (a : Option Addr) (n cap : Nat) (fr to : Nat) : Value := .agg #[.int .i64 lv, .slice a n cap, .int .i64 (fr : Int), .int .i64 (to : Int)]

theorem results_step {fn : Func} {p : Tmp} (h : fn.results = #[.cell p 105]) (tmps : Array Value) (w : World) (x : Nat) (v0 v1 v2 v3 : Value)
    (hp : tmps.getD p undef = .pointer (some ⟨x, 0, none⟩)) (hb : w.heap[x]? = some (.cells #[v0, v1, v2, v3] 105 (0, 0))) : (results fn tmps).run Try.prog w = .ok (.agg #[v0, v1, v2, v3]) w := by
  have c0 : w.cell? ⟨x, 0, none⟩ = some v0 := by simp [World.cell?, hb]
  have c1 : w.cell? ⟨x, 1, none⟩ = some v1 := by simp [World.cell?, hb]
  have c2 : w.cell? ⟨x, 2, none⟩ = some v2 := by simp [World.cell?, hb]
  have c3 : w.cell? ⟨x, 3, none⟩ = some v3 := by simp [World.cell?, hb]
  have hp' : tmps[p]?.getD undef = .pointer (some ⟨x, 0, none⟩) := by simpa using hp
  simp [results, h, hp', asAddr, c0, c1, c2, c3, go_sem]

theorem trEmpty (lv : Int) (a : Option Addr) (n cap fr to : Nat) (w : World) :
    Calls Try.prog 37 #[stepV lv a n cap fr to] w fun e w' => e = .returned (.bool (decide (fr = to))) ∧ KeptIn (· < w.heap.size) w w' := by
  unfold stepV
  obtain ⟨b, hb⟩ : ∃ b, decide (fr = to) = b := ⟨_, rfl⟩
  have hb' : ((fr : Int) == (to : Int)) = b := by
    rw [← hb]
    by_cases e : fr = to
    · simp [e]
    · rw [decide_eq_false e, beq_eq_false_iff_ne]; omega
  rw [hb]
  clear hb
  go_enter Try.func37, Try.ntmps37
  go_wp2_with fail
  go_ret
  exact ⟨rfl, (KeptIn.refl _ w).alloc (fun _ h => h) _⟩

theorem il_nums (r j : Nat) (hj : r + 1 = j) (h : r ≤ 1000) : wrap64 ((r : Int) + 1) = (j : Int) ∧ IntKind.i64.wrap ((r : Int) + 1) = (j : Int) := by
  refine ⟨by unfold wrap64; omega, by rw [IntKind.wrap_i64]; omega⟩
theorem belowK_le (ps : Pairs) (k : Nat) : belowK ps k ≤ ps.length := List.countP_le_length

/-- Where a step in a leaf ends. -/
def toOf (ps : Pairs) (k : Nat) : Nat := if hasK ps k then belowK ps k + 1 else belowK ps k

set_option maxRecDepth 100000 in
theorem trInLeaf (lv : Int) (a : Option Addr) (cap : Nat) (ps : Pairs) (k : Nat) (w : World) (h : IsPs w a ps) (hr : rises ps = true) (hk : k < 18446744073709551616) (hl : ps.length ≤ 1000) :
    Calls Try.prog 60 #[leafV lv a ps.length cap, .int .u64 (k : Int)] w fun e w' => e = .returned (stepV lv a ps.length cap (belowK ps k) (toOf ps k)) ∧ KeptIn (· < w.heap.size) w w' := by
  obtain ⟨W, hW⟩ : ∃ W, (w.alloc (.cells #[.int .i64 lv, .slice a ps.length cap] 27)).alloc (.cells #[.int .i64 0, .slice none 0 0, .int .i64 0, .int .i64 0] 105) = W := ⟨_, rfl⟩
  have hkW : KeptIn (· < w.heap.size) w W := by rw [← hW]; exact ((KeptIn.refl _ w).alloc (fun _ h => h) _).alloc (fun _ h => h) _
  have C := lfFind lv a cap ps k W (h.old hkW) hr hk
  obtain ⟨x, hx⟩ : ∃ x, w.heap.size = x := ⟨_, rfl⟩
  have hbl : BoxL x lv a ps.length cap W := by
    rw [← hW, ← hx]
    exact (BoxL.new w _ _ _ _).kept ((KeptIn.refl _ _).alloc (fun _ h => h) _) (by simp)
  have hst : W.heap[x + 1]? = some (.cells #[.int .i64 0, .slice none 0 0, .int .i64 0, .int .i64 0] 105 (0, 0)) := by
    rw [← hW, ← hx, show w.heap.size + 1 = (w.alloc (.cells #[.int .i64 lv, .slice a ps.length cap] 27)).heap.size by simp]
    exact heap_alloc_new _ _
  obtain ⟨j, hj⟩ : ∃ j, belowK ps k + 1 = j := ⟨_, rfl⟩
  obtain ⟨n1, n2⟩ := il_nums _ j hj (Nat.le_trans (belowK_le ps k) hl)
  unfold toOf
  rw [hj]
  obtain ⟨m, hm⟩ : ∃ m, ps.length = m := ⟨_, rfl⟩
  rw [hm] at hbl hW C ⊢
  generalize belowK ps k = r at *
  generalize hasK ps k = b at *
  have c0 := hbl.c0
  have c1 := hbl.c1
  have HC := Lib.hid C
  have HWB := Lib.hid (And.intro hkW (And.intro hbl hst))
  unfold leafV stepV at *
  clear h hr C hbl hkW hm hst hj hk hl
  cases b
  · rw [if_neg (by decide)]
    clear n1 n2
    go_enter Try.func60, Try.ntmps60
    go_wp2_with (go_at_call 70; refine HC.out.mono ?_)
    rintro e V ⟨rfl, hk⟩
    have hbV := HWB.out.2.1.kept hk HWB.out.2.1.lt
    have hsV := (hk.block (x + 1) (Array.getElem?_eq_some_iff.1 HWB.out.2.2).1).trans HWB.out.2.2
    have q0 := hbV.c0
    have q1 := hbV.c1
    have r0 : V.cell? ⟨x + 1, 0, none⟩ = some (.int .i64 0) := by simp [World.cell?, hsV]
    have r1 : V.cell? ⟨x + 1, 1, none⟩ = some (.slice none 0 0) := by simp [World.cell?, hsV]
    have r2 : V.cell? ⟨x + 1, 2, none⟩ = some (.int .i64 0) := by simp [World.cell?, hsV]
    have r3 : V.cell? ⟨x + 1, 3, none⟩ = some (.int .i64 0) := by simp [World.cell?, hsV]
    have f0 : V.frozen? ⟨x + 1, 0, none⟩ = false := by simp [World.frozen?, hsV]
    have f1 : V.frozen? ⟨x + 1, 1, none⟩ = false := by simp [World.frozen?, hsV]
    have f2 : V.frozen? ⟨x + 1, 2, none⟩ = false := by simp [World.frozen?, hsV]
    have f3 : V.frozen? ⟨x + 1, 3, none⟩ = false := by simp [World.frozen?, hsV]
    have HV := Lib.hid (And.intro (HWB.out.1.go hk) hsV)
    clear hbV hsV hk
    go_wp2_with fail
    have s1 : (V.setCell ⟨x + 1, 0, none⟩ (.int .i64 lv)).heap[x + 1]? = _ := heap_setCell_same _ _ _ _ _ _ HV.out.2
    have s2 : ((V.setCell ⟨x + 1, 0, none⟩ (.int .i64 lv)).setCell ⟨x + 1, 1, none⟩ (.slice a m cap)).heap[x + 1]? = _ := heap_setCell_same _ _ _ _ _ _ s1
    have s3 : (((V.setCell ⟨x + 1, 0, none⟩ (.int .i64 lv)).setCell ⟨x + 1, 1, none⟩ (.slice a m cap)).setCell ⟨x + 1, 2, none⟩ (.int .i64 (r : Int))).heap[x + 1]? = _ := heap_setCell_same _ _ _ _ _ _ s2
    have s4 : ((((V.setCell ⟨x + 1, 0, none⟩ (.int .i64 lv)).setCell ⟨x + 1, 1, none⟩ (.slice a m cap)).setCell ⟨x + 1, 2, none⟩ (.int .i64 (r : Int))).setCell ⟨x + 1, 3, none⟩ (.int .i64 (r : Int))).heap[x + 1]? = _ := heap_setCell_same _ _ _ _ _ _ s3
    have hkF := (((HV.out.1.setCell (p := ⟨x + 1, 0, none⟩) (by rw [hx]; simp) (.int .i64 lv)).setCell (p := ⟨x + 1, 1, none⟩) (by rw [hx]; simp) (.slice a m cap)).setCell (p := ⟨x + 1, 2, none⟩) (by rw [hx]; simp) (.int .i64 (r : Int))).setCell (p := ⟨x + 1, 3, none⟩) (by rw [hx]; simp) (.int .i64 (r : Int))
    refine bodyPost_ret (results_step rfl _ _ (x + 1) _ _ _ _ rfl s4) rfl ?_
    exact ⟨rfl, hkF⟩
  · rw [if_pos rfl]
    go_enter Try.func60, Try.ntmps60
    go_wp2_with (go_at_call 70; refine HC.out.mono ?_)
    rintro e V ⟨rfl, hk⟩
    have hbV := HWB.out.2.1.kept hk HWB.out.2.1.lt
    have hsV := (hk.block (x + 1) (Array.getElem?_eq_some_iff.1 HWB.out.2.2).1).trans HWB.out.2.2
    have q0 := hbV.c0
    have q1 := hbV.c1
    have r0 : V.cell? ⟨x + 1, 0, none⟩ = some (.int .i64 0) := by simp [World.cell?, hsV]
    have r1 : V.cell? ⟨x + 1, 1, none⟩ = some (.slice none 0 0) := by simp [World.cell?, hsV]
    have r2 : V.cell? ⟨x + 1, 2, none⟩ = some (.int .i64 0) := by simp [World.cell?, hsV]
    have r3 : V.cell? ⟨x + 1, 3, none⟩ = some (.int .i64 0) := by simp [World.cell?, hsV]
    have f0 : V.frozen? ⟨x + 1, 0, none⟩ = false := by simp [World.frozen?, hsV]
    have f1 : V.frozen? ⟨x + 1, 1, none⟩ = false := by simp [World.frozen?, hsV]
    have f2 : V.frozen? ⟨x + 1, 2, none⟩ = false := by simp [World.frozen?, hsV]
    have f3 : V.frozen? ⟨x + 1, 3, none⟩ = false := by simp [World.frozen?, hsV]
    have HV := Lib.hid (And.intro (HWB.out.1.go hk) hsV)
    clear hbV hsV hk
    go_wp2_with fail
    have s1 : (V.setCell ⟨x + 1, 0, none⟩ (.int .i64 lv)).heap[x + 1]? = _ := heap_setCell_same _ _ _ _ _ _ HV.out.2
    have s2 : ((V.setCell ⟨x + 1, 0, none⟩ (.int .i64 lv)).setCell ⟨x + 1, 1, none⟩ (.slice a m cap)).heap[x + 1]? = _ := heap_setCell_same _ _ _ _ _ _ s1
    have s3 : (((V.setCell ⟨x + 1, 0, none⟩ (.int .i64 lv)).setCell ⟨x + 1, 1, none⟩ (.slice a m cap)).setCell ⟨x + 1, 2, none⟩ (.int .i64 (r : Int))).heap[x + 1]? = _ := heap_setCell_same _ _ _ _ _ _ s2
    have s4 : ((((V.setCell ⟨x + 1, 0, none⟩ (.int .i64 lv)).setCell ⟨x + 1, 1, none⟩ (.slice a m cap)).setCell ⟨x + 1, 2, none⟩ (.int .i64 (r : Int))).setCell ⟨x + 1, 3, none⟩ (.int .i64 (j : Int))).heap[x + 1]? = _ := heap_setCell_same _ _ _ _ _ _ s3
    have hkF := (((HV.out.1.setCell (p := ⟨x + 1, 0, none⟩) (by rw [hx]; simp) (.int .i64 lv)).setCell (p := ⟨x + 1, 1, none⟩) (by rw [hx]; simp) (.slice a m cap)).setCell (p := ⟨x + 1, 2, none⟩) (by rw [hx]; simp) (.int .i64 (r : Int))).setCell (p := ⟨x + 1, 3, none⟩) (by rw [hx]; simp) (.int .i64 (j : Int))
    refine bodyPost_ret (results_step rfl _ _ (x + 1) _ _ _ _ rfl s4) rfl ?_
    exact ⟨rfl, hkF⟩

end Go.Proofs.Ytbnpabpkaebojaa
/- Package tree's descend: the way from the root to the leaf of a key. -/
set_option linter.unusedVariables false
namespace Go.Proofs.Ytbnpabpkaebojaa
open Go.RowKit

/-- A step: a node, and which of its pairs a change is about. -/
structure Stp where
  lv : Nat
  ps : Pairs
  fr : Nat
  to : Nat
deriving Inhabited

/-- The node of a page. -/
def nodeOf (N : List Nd) (p : Nat) : Option Nd := if p = 0 then none else N[p - 1]?
theorem nodeOf_at {N : List Nd} {p : Nat} {nd : Nd} (h : nodeOf N p = some nd) : ∃ i, ∃ hi : i < N.length, i + 1 = p ∧ N[i] = nd := by
  unfold nodeOf at h
  split at h
  · cases h
  · obtain ⟨hi, e⟩ := List.getElem?_eq_some_iff.1 h
    exact ⟨p - 1, hi, by omega, e⟩

/-- The way of a key down from a lead. -/
def WayG (N : List Nd) (k : Nat) : List Stp → Bool → Int → Nat → Nat → Nat → Prop
  | [], _, _, _, _, _ => False
  | [s], root, lv, lo, hi, p => nodeOf N p = some (0, s.ps) ∧ s.lv = 0 ∧ FitOk root lv lo hi 0 s.ps ∧ s.fr = belowK s.ps k ∧ s.to = toOf s.ps k
  | s :: t :: r, root, lv, lo, hi, p => nodeOf N p = some (s.lv, s.ps) ∧ 0 < s.lv ∧ FitOk root lv lo hi s.lv s.ps ∧ s.fr = kidOf s.ps k ∧ s.to = s.fr + 1 ∧ WayG N k (t :: r) false ((s.lv : Int) - 1) (keyAt s.ps s.fr) (highOf s.ps s.fr hi) (valAt s.ps s.fr)

/-- A slice's room. -/
def CapOk (a : Option Addr) (n cap : Nat) : Prop := n ≤ cap ∧ cap ≤ maxLen ∧ (a = none → cap = 0) ∧ ∀ p, a = some p → ∃ g, p = ⟨g, 0, none⟩
theorem cap_some {g n cap : Nat} (h1 : n ≤ cap) (h2 : cap ≤ maxLen) : CapOk (some ⟨g, 0, none⟩) n cap := ⟨h1, h2, (fun e => by cases e), fun p e => by cases e; exact ⟨g, rfl⟩⟩
/-- The cells of steps: each one's pairs lie at B0 or beyond. -/
def WayC (W : World) (B0 : Nat) : List Value → List Stp → Prop
  | xs, [] => xs = []
  | xs, s :: r => ∃ a cap xs', xs = .int .i64 (s.lv : Int) :: .slice a s.ps.length cap :: .int .i64 (s.fr : Int) :: .int .i64 (s.to : Int) :: xs' ∧ IsPs W a s.ps ∧ (∀ p, a = some p → B0 ≤ p.block ∧ TyP W p.block) ∧ CapOk a s.ps.length cap ∧ WayC W B0 xs' r
theorem WayC.snoc {W : World} {B0 : Nat} : ∀ {ws : List Stp} {xs : List Value} {s : Stp} {a : Option Addr} {cap : Nat}, WayC W B0 xs ws → IsPs W a s.ps → (∀ p, a = some p → B0 ≤ p.block ∧ TyP W p.block) → CapOk a s.ps.length cap →
    WayC W B0 (xs ++ [.int .i64 (s.lv : Int), .slice a s.ps.length cap, .int .i64 (s.fr : Int), .int .i64 (s.to : Int)]) (ws ++ [s]) := by
  intro ws
  induction ws with
  | nil =>
    intro xs s a cap h h1 h2 h3
    obtain rfl : xs = [] := h
    exact ⟨a, cap, [], rfl, h1, h2, h3, rfl⟩
  | cons t r ih =>
    intro xs s a cap h h1 h2 h3
    obtain ⟨a', cap', xs', rfl, k1, k2, k4, k3⟩ := h
    exact ⟨a', cap', _, rfl, k1, k2, k4, ih k3 h1 h2 h3⟩
theorem WayC.kept {W W' : World} {B0 : Nat} {X : Nat → Prop} (hk : KeptIn X W W') (hX : ∀ k, B0 ≤ k → TyP W k → X k) : ∀ {ws : List Stp} {xs : List Value}, WayC W B0 xs ws → WayC W' B0 xs ws := by
  intro ws
  induction ws with
  | nil => intro xs h; exact h
  | cons t r ih =>
    intro xs h
    obtain ⟨a', cap', xs', rfl, k1, k2, k4, k3⟩ := h
    exact ⟨a', cap', xs', rfl, psAt k1 hk (fun p e => hX _ (k2 p e).1 (k2 p e).2), fun p e => ⟨(k2 p e).1, (k2 p e).2.kept (hk.block _ (hX _ (k2 p e).1 (k2 p e).2))⟩, k4, ih k3⟩
theorem WayC.old {W W' : World} {B0 : Nat} {ws : List Stp} {xs : List Value} (h : WayC W B0 xs ws) (hk : KeptIn (· < W.heap.size) W W') : WayC W' B0 xs ws := h.kept hk fun _ _ h => h.lt
theorem WayC.grown {W V w1 : World} {B0 B1 n : Nat} {v : Value} {ys : List Value} {ws : List Stp} {xs : List Value} (h : WayC W B0 xs ws) (hk : KeptIn (· < W.heap.size) W V) (hr : V.ownsRow B1 105 4 v n ys) (hg : V.grownBy w1 v.ownBlock) : WayC w1 B0 xs ws :=
  (h.old hk).kept (X := fun k => TyP V k) ⟨hg.os, hg.tape, hg.output, hg.size, fun k hT => hg.block k hT.lt fun e => by
    obtain ⟨cs, fr, hc⟩ := hT
    exact rowS_ne hr hc (by decide) e.symm⟩ fun _ _ h => h
theorem WayC.length {W : World} {B0 : Nat} : ∀ {ws : List Stp} {xs : List Value}, WayC W B0 xs ws → xs.length = ws.length * 4 := by
  intro ws
  induction ws with
  | nil => intro xs h; obtain rfl : xs = [] := h; rfl
  | cons t r ih =>
    intro xs h
    obtain ⟨a', cap', xs', rfl, _, _, _, k3⟩ := h
    simp [ih k3]; omega

/-- A way in memory, a row of a call's own. -/
def WayR (W : World) (B0 : Nat) (v : Value) (ws : List Stp) : Prop := ∃ xs, W.ownsRow B0 105 4 v ws.length xs ∧ WayC W B0 xs ws

/-- What descend hands back. -/
def DescS (w : World) (ws : List Stp) (e : Ending) (w' : World) : Prop := ∃ v, e = .returned (.tuple #[v, .int .i64 0]) ∧ WayR w' w.heap.size v ws ∧ KeptIn (· < w.heap.size) w w'

def slLen : Value → Nat
  | .slice _ n _ => n
  | _ => 0

theorem infoStep : (Try.prog.info? 105).map (fun i => (i.zero, i.size, i.bytes)) = some (some (.agg #[.int .i64 0, .slice none 0 0, .int .i64 0, .int .i64 0]), 4, 48) := by kernel_rfl

theorem trDescendNil (s : Nat) (k : Nat) (w : World) :
    Calls Try.prog 36 #[pgV s, .int .i64 0, .int .u64 (k : Int)] w (DescS w [⟨0, [], 0, 0⟩]) := by
  unfold pgV
  go_enter Try.func36, Try.ntmps36
  go_wp2_with fail
  go_ret2
  refine ⟨_, rfl, ⟨[.int .i64 0, .slice none 0 0, .int .i64 0, .int .i64 0], ⟨rfl, .inr ⟨w.heap.size, 1, #[.int .i64 0, .slice none 0 0, .int .i64 0, .int .i64 0], rfl, Nat.le_refl _, heap_alloc_new _ _, Nat.le_refl _, by decide, rfl, rfl⟩⟩, ⟨none, 0, [], rfl, IsPs.none _ _, (fun p e => by cases e), ⟨Nat.le_refl _, Nat.zero_le _, (fun _ => rfl), fun p e => by cases e⟩, rfl⟩⟩, (KeptIn.refl _ w).alloc (fun _ h => h) _⟩

theorem WayC.weaken {W : World} {B0 B1 : Nat} (hb : B0 ≤ B1) : ∀ {ws : List Stp} {xs : List Value}, WayC W B1 xs ws → WayC W B0 xs ws := by
  intro ws
  induction ws with
  | nil => intro xs h; exact h
  | cons t r ih =>
    intro xs h
    obtain ⟨a', cap', xs', rfl, k1, k2, k4, k3⟩ := h
    exact ⟨a', cap', xs', rfl, k1, fun p e => ⟨Nat.le_trans hb (k2 p e).1, (k2 p e).2⟩, k4, ih k3⟩
theorem fit_good {root : Bool} {lv : Int} {lo hi L : Nat} {ps : Pairs} (h : FitOk root lv lo hi L ps) : goodN (L : Int) ps = true ∧ 0 < ps.length := by
  cases root with
  | true => exact ⟨h.1, h.2.1⟩
  | false => exact ⟨h.1, h.2.1⟩
theorem good_rises {L : Int} {ps : Pairs} (h : goodN L ps = true) : rises ps = true := by
  unfold goodN at h
  simp only [Bool.and_eq_true] at h
  exact h.1.2
theorem good_vals {L : Int} {ps : Pairs} (h : goodN L ps = true) (h0 : ¬ L = 0) : ∀ i, i < ps.length → 1 ≤ valAt ps i ∧ valAt ps i ≤ 511 := by
  unfold goodN at h
  simp only [Bool.and_eq_true, Bool.or_eq_true, decide_eq_true_eq] at h
  exact (pagesOk_iff ps).1 (h.2.resolve_left h0)

/-- Between two rounds: what is done of the way, the lead to the rest. -/
def DsI (w : World) (N : List Nd) (k B : Nat) (full : List Stp) (v : Value) (W : World) : Prop :=
  ∃ done rest root lv lo hi p xs, full = done ++ rest ∧ WayG N k rest root lv lo hi p ∧ BoxD B p root lv lo hi W ∧ W.ownsRow w.heap.size 105 4 v done.length xs ∧ WayC W (B + 1) xs done ∧ KeptIn (· < w.heap.size) w W ∧ hi < 18446744073709551616

theorem way_pos {N : List Nd} {k : Nat} {ws : List Stp} {root : Bool} {lv : Int} {lo hi p : Nat} (h : WayG N k ws root lv lo hi p) : 0 < p := by
  have : ∃ nd, nodeOf N p = some nd := by
    cases ws with
    | nil => exact h.elim
    | cons s r =>
      cases r with
      | nil => exact ⟨_, h.1⟩
      | cons t r => exact ⟨_, h.1⟩
  obtain ⟨nd, e⟩ := this
  unfold nodeOf at e
  split at e
  · cases e
  · omega

theorem slLen_row {W : World} {B n c : Nat} {T : TypeId} {v : Value} {xs : List Value} (h : W.ownsRow B T c v n xs) : slLen v = n := by
  rcases h.2 with ⟨rfl, rfl⟩ | ⟨g1, cap1, cur, rfl, _⟩ <;> rfl
theorem uptoK_le (ps : Pairs) (k : Nat) : uptoK ps k ≤ ps.length := List.countP_le_length
theorem kidOf_lt (ps : Pairs) (k : Nat) (h : 0 < ps.length) : kidOf ps k < ps.length := by
  have := uptoK_le ps k
  unfold kidOf; omega
theorem highOf_lt (ps : Pairs) (i hi : Nat) (hf : Fits ps) (h : hi < 18446744073709551616) : highOf ps i hi < 18446744073709551616 := by
  unfold highOf
  split
  · rename_i hl
    have := (hf.at hl).1
    omega
  · exact h
theorem ds_meas (nn dn : Nat) (h : dn < nn) : nn - (dn + 1) < nn - dn := by omega
/-- A lead's box, stored to: all else stands. -/
theorem leadSet {V : World} {B page : Nat} {lv : Int} {low high : Nat} : KeptIn (fun k => k ≠ B) V (((((V.setCell ⟨B, 0, none⟩ (.int .i64 (page : Int))).setCell ⟨B, 1, none⟩ (.bool false)).setCell ⟨B, 2, none⟩ (.int .i64 lv)).setCell ⟨B, 3, none⟩ (.int .u64 (low : Int))).setCell ⟨B, 4, none⟩ (.int .u64 (high : Int))) :=
  (((((KeptIn.refl _ V).setCell (p := ⟨B, 0, none⟩) (by simp) _).setCell (p := ⟨B, 1, none⟩) (by simp) _).setCell (p := ⟨B, 2, none⟩) (by simp) _).setCell (p := ⟨B, 3, none⟩) (by simp) _).setCell (p := ⟨B, 4, none⟩) (by simp) _

/-- One step more. -/
theorem way_more {W V w8 : World} {B0 B1 n g cg : Nat} {v : Value} {ys xs : List Value} {done : List Stp} {st : Stp} (hwc : WayC W B0 xs done) (hk : KeptIn (· < W.heap.size) W V) (hr : V.ownsRow B1 105 4 v n ys) (hg : V.grownBy w8 v.ownBlock)
    (hps : IsPs V (some ⟨g, 0, none⟩) st.ps) (hty : TyC V g st.ps.length cg) (hge : B0 ≤ g) : WayC w8 B0 (xs ++ [.int .i64 (st.lv : Int), .slice (some ⟨g, 0, none⟩) st.ps.length cg, .int .i64 (st.fr : Int), .int .i64 (st.to : Int)]) (done ++ [st]) :=
  ((hwc.old hk).snoc (s := st) (a := some ⟨g, 0, none⟩) (cap := cg) hps (fun p e => by cases e; exact ⟨hge, hty.1⟩) (cap_some hty.2.1 hty.2.2)).grown (KeptIn.refl _ V) hr hg

set_option maxHeartbeats 2000000 in
set_option maxRecDepth 100000 in
theorem trDescend {w : World} {s room : Nat} {N : List Nd} {D : Nat → Prop} (h : IsSh w s room N D) (k : Nat) (hk : k < 18446744073709551616) (ws : List Stp) (p : Nat) (hw : WayG N k ws true 0 0 18446744073709551615 p) (hlen : ws.length ≤ 1000) :
    Calls Try.prog 36 #[pgV s, .int .i64 (p : Int), .int .u64 (k : Int)] w (DescS w ws) := by
  have hp := way_pos hw
  have p0 : ((p : Int) == 0) = false := by rw [beq_eq_false_iff_ne]; omega
  have p1 : ¬ ((p : Int) = 0) := by omega
  have HS := Lib.hid h
  have HW := Lib.hid hw
  unfold pgV
  clear hw h hp
  go_enter Try.func36, Try.ntmps36
  go_wp2_with (go_at_call 52; refine (trToRoot p _).mono ?_)
  rintro e V ⟨rfl, k1⟩
  have HK1 := Lib.hid k1
  clear k1
  unfold leadV
  obtain ⟨W1, hW1⟩ : ∃ W1, V.alloc (.cells #[.int .i64 (p : Int), .bool true, .int .i64 0, .int .u64 0, .int .u64 18446744073709551615] 119) = W1 := ⟨_, rfl⟩
  have hb1 : BoxD V.heap.size p true 0 0 18446744073709551615 W1 := by rw [← hW1]; exact BoxD.new V p true 0 0 18446744073709551615
  have hkV1 : KeptIn (· < w.heap.size) w W1 := by rw [← hW1]; exact HK1.out.go ((KeptIn.refl _ V).alloc (fun _ h => h) _)
  obtain ⟨B, hB⟩ : ∃ B, V.heap.size = B := ⟨_, rfl⟩
  rw [hB] at hb1
  have HBB : Hid (w.heap.size ≤ B) := Lib.hid (by rw [← hB]; exact HK1.out.size)
  have HI0 : Hid (DsI w N k B ws (.slice none 0 0) W1) := Lib.hid ⟨[], ws, true, 0, 0, 18446744073709551615, p, [], rfl, HW.out, hb1, ⟨rfl, .inl ⟨rfl, rfl⟩⟩, rfl, hkV1, by decide⟩
  clear hb1 hkV1 HW
  go_wp2_with fail
  obtain ⟨ii, hii, hz0, hz1, hz2⟩ := info_parts infoStep
  obtain ⟨nn, hnn⟩ : ∃ nn, ws.length = nn := ⟨_, rfl⟩
  have HNN := Lib.hid hnn
  clear hnn HK1 hW1 hB p0 p1
  go_loopw [8] (fun v wr => ∃ (W : World) (v0 : Value), W = wr ∧ v0 = v ∧ Hid (DsI w N k B ws v0 W)) (fun v _ => nn - slLen v)
  case atStart => exact ⟨_, _, rfl, rfl, HI0⟩
  case round =>
    obtain ⟨W, v0, rfl, rfl, HJ⟩ := hrel
    clear HI0
    obtain ⟨done, rest, root, lv, lo, hi, q, xs, hfull, hway, hbd, hrow, hwc, hkw, hhi⟩ := HJ.out
    cases rest with
    | nil => exact hway.elim
    | cons st r =>
      have hnode : ∃ L : Nat, nodeOf N q = some (L, st.ps) ∧ FitOk root lv lo hi L st.ps ∧ L = st.lv := by
        cases r with
        | nil => exact ⟨0, hway.1, hway.2.2.1, hway.2.1.symm⟩
        | cons t r => exact ⟨st.lv, hway.1, hway.2.2.1, rfl⟩
      obtain ⟨L, hnd, hfit, hL⟩ := hnode
      obtain ⟨ix, hix, hqi, hni⟩ := nodeOf_at hnd
      have CL := trLeadRead (HS.out.old hkw) ix hix root lv lo hi (by rw [hni]; exact hfit)
      rw [hqi, hni] at CL
      subst hL
      have HCL := Lib.hid CL
      have d0 := hbd.c0
      have d1 := hbd.c1
      have d2 := hbd.c2
      have d3 := hbd.c3
      have d4 := hbd.c4
      have HD := Lib.hid (And.intro hfull (And.intro hway (And.intro hbd (And.intro hrow (And.intro hwc (And.intro hkw (And.intro hhi hfit)))))))
      clear hfull hway hbd hrow hwc hkw hhi hfit CL hnd hix hqi hni HJ
      unfold leadV pgV at HCL
      go_wp2_with (go_at_call 59; refine HCL.out.mono ?_)
      rintro e V2 ⟨g, cg, rfl, hps, hg, hk2, hty⟩
      unfold leafV
      obtain ⟨m, hm⟩ : ∃ m, st.ps.length = m := ⟨_, rfl⟩
      rw [hm]
      obtain ⟨U, hU⟩ : ∃ U, V2.alloc (.cells #[.int .i64 (st.lv : Int), .slice (some ⟨g, 0, none⟩) m cg] 27) = U := ⟨_, rfl⟩
      obtain ⟨y, hy⟩ : ∃ y, V2.heap.size = y := ⟨_, rfl⟩
      have hkU : KeptIn (· < V2.heap.size) V2 U := by rw [← hU]; exact (KeptIn.refl _ V2).alloc (fun _ h => h) _
      have hby : BoxL y (st.lv : Int) (some ⟨g, 0, none⟩) m cg U := by rw [← hU, ← hy]; exact BoxL.new V2 _ _ _ _
      have hkWU : KeptIn (· < W.heap.size) W U := hk2.go hkU
      have hpsU := hps.old hkU
      have q0 := hby.c0
      have q1 := hby.c1
      have HM := Lib.hid hm
      have HTY := Lib.hid (hty.old hkU)
      have HU := Lib.hid (And.intro hby (And.intro hkWU (And.intro hpsU hg)))
      clear d0 d1 d2 d3 d4 hps hg hk2 hkU hby hkWU hpsU HCL hm hty
      cases r with
      | nil =>
        have hl0 : st.lv = 0 := HD.out.2.1.2.1
        have z0 : ((st.lv : Int) == 0) = true := by rw [hl0]; rfl
        have CI := trInLeaf (st.lv : Int) (some ⟨g, 0, none⟩) cg st.ps k U HU.out.2.2.1 (good_rises (fit_good HD.out.2.2.2.2.2.2.2).1) hk (Nat.le_trans (good_parts (fit_good HD.out.2.2.2.2.2.2.2).1).2.2 (by decide))
        rw [HM.out] at CI
        unfold leafV stepV at CI
        have HCI := Lib.hid CI
        generalize hLV : (st.lv : Int) = LV at *
        have HLV := Lib.hid hLV
        clear CI hl0 hLV
        go_wp2_with (go_at_call 60; refine HCI.out.mono ?_)
        rintro e V3 ⟨rfl, hk3⟩
        obtain ⟨dn, hdn⟩ : ∃ dn, done.length = dn := ⟨_, rfl⟩
        have hdl : dn + 1 ≤ 1000 := by
          have h1 : ws.length = done.length + 1 := by rw [HD.out.1]; simp
          rw [← hdn, ← h1]; exact hlen
        have hk3W : KeptIn (· < W.heap.size) W V3 := HU.out.2.1.go hk3
        have hrow3 : V3.ownsRow w.heap.size 105 4 v0 dn xs := by
          rw [← hdn]
          exact rowS_block HD.out.2.2.2.1 fun g' e => hk3W.block g' (rowS_lt HD.out.2.2.2.1 g' e).2
        have HROW := Lib.hid hrow3
        have HB3 := Lib.hid (And.intro hdn (And.intro hdl (And.intro hk3W hk3)))
        have hb3 : w.heap.size ≤ V3.heap.size := Nat.le_trans HD.out.2.2.2.2.2.1.size hk3W.size
        have hmx : dn + 1 ≤ maxLen := by unfold maxLen; omega
        have hby3 : (dn + 1) * 48 ≤ 140737488355328 := by omega
        generalize hbk : (belowK st.ps k : Int) = bk
        generalize htk : (toOf st.ps k : Int) = tk
        have HBT := Lib.hid (And.intro hbk htk)
        clear hdn hk3W hk3 hrow3 HCI q0 q1 hbk htk hdl
        go_wp2_with (at_builtin; refine wpList_append_own _ rfl _ _ 101 rfl w.heap.size 105 ii _ 4 48 Try.underlying101 hii hz0 hz1 hz2 rfl (by decide) _ _ _ rfl (HROW.out.alloc _) ⟨V3.heap.size, 0, none⟩ 1 1 [.int .i64 LV, .slice (some ⟨g, 0, none⟩) m cg, .int .i64 bk, .int .i64 tk] rfl rfl (World.news_of_block (cs := #[.int .i64 LV, .slice (some ⟨g, 0, none⟩) m cg, .int .i64 bk, .int .i64 tk]) (t := 105) (fr := (0, 0)) (heap_alloc_new V3 _)) (by simp [Value.oneCell']) hmx hby3 (by rw [World.size_alloc]; exact Nat.le_succ_of_le hb3) ?_)
        intro v' w8 hown' hgrow _
        have hka : KeptIn (· < V3.heap.size) V3 (V3.alloc (.cells #[.int .i64 LV, .slice (some ⟨g, 0, none⟩) m cg, .int .i64 bk, .int .i64 tk] 105)) := (KeptIn.refl _ V3).alloc (fun _ h => h) _
        have hkB : KeptIn (· < U.heap.size) U (V3.alloc (.cells #[.int .i64 LV, .slice (some ⟨g, 0, none⟩) m cg, .int .i64 bk, .int .i64 tk] 105)) := HB3.out.2.2.2.go hka
        have hra : (V3.alloc (.cells #[.int .i64 LV, .slice (some ⟨g, 0, none⟩) m cg, .int .i64 bk, .int .i64 tk] 105)).ownsRow w.heap.size 105 4 v0 dn xs := HROW.out.alloc _
        have hfr : st.fr = belowK st.ps k := HD.out.2.1.2.2.2.1
        have hto : st.to = toOf st.ps k := HD.out.2.1.2.2.2.2
        have hw8 := way_more (cg := cg) (st := st) HD.out.2.2.2.2.1 (HB3.out.2.2.1.go hka) hra hgrow (HU.out.2.2.1.old hkB) (HTY.out.old hkB) (Nat.lt_of_lt_of_le HD.out.2.2.1.lt HU.out.2.2.2)
        rw [HLV.out, HM.out, hfr, hto, HBT.out.1, HBT.out.2] at hw8
        have hkF : KeptIn (· < w.heap.size) w w8 := (HD.out.2.2.2.2.2.1.go (HB3.out.2.2.1.go hka)).grown (fun _ h => h) hgrow fun g' e => Nat.not_lt.2 (rowS_lt hra g' e).1
        have hws : ws = done ++ [st] := HD.out.1
        have hdn := HB3.out.1
        have HF := Lib.hid (And.intro hw8 (And.intro hkF (And.intro hws hdn)))
        have HO := Lib.hid hown'
        clear hra hka hkB hfr hto hw8 hkF hws hdn hgrow hown' HROW HB3 HU HD HTY
        go_wp2_with fail
        go_ret2
        refine ⟨v', rfl, ⟨xs ++ [.int .i64 LV, .slice (some ⟨g, 0, none⟩) m cg, .int .i64 bk, .int .i64 tk], ?_, ?_⟩, HF.out.2.1⟩
        · rw [HF.out.2.2.1, List.length_append, HF.out.2.2.2]; exact HO.out
        · rw [HF.out.2.2.1]; exact HF.out.1.weaken (Nat.le_succ_of_le HBB.out)
      | cons t r =>
        have hl0 : 0 < st.lv := HD.out.2.1.2.1
        have hgood := (fit_good HD.out.2.2.2.2.2.2.2).1
        have hpos := (fit_good HD.out.2.2.2.2.2.2.2).2
        obtain ⟨_, hlv7, hl15⟩ := good_parts hgood
        have z0 : ((st.lv : Int) == 0) = false := by rw [beq_eq_false_iff_ne]; omega
        have hkid := kidOf_lt st.ps k hpos
        have hval := good_vals hgood (by omega) _ hkid
        have CC := trChildFor (st.lv : Int) (some ⟨g, 0, none⟩) cg st.ps k U HU.out.2.2.1 (good_rises hgood)
        obtain ⟨ki, hki⟩ : ∃ ki, kidOf st.ps k = ki := ⟨_, rfl⟩
        obtain ⟨kj, hkj⟩ : ∃ kj, ki + 1 = kj := ⟨_, rfl⟩
        rw [HM.out, hki] at CC
        rw [hki] at hkid hval
        obtain ⟨n1, n2⟩ := il_nums ki kj hkj (Nat.le_trans (Nat.le_of_lt hkid) (Nat.le_trans hl15 (by decide)))
        have CT := Lib.hid fun (X : World) (hX : IsPs X (some ⟨g, 0, none⟩) st.ps) => trToChild st.lv (some ⟨g, 0, none⟩) cg st.ps ki hi X hX (good_rises hgood) hkid (Nat.le_trans hl15 (by decide)) ⟨hl0, by omega⟩ hval.2
        have HG := Lib.hid (And.intro hkid (And.intro hki hkj))
        unfold leafV at CC CT
        rw [HM.out] at CT
        have HCC := Lib.hid CC
        generalize hLV : (st.lv : Int) = LV at *
        have HLV := Lib.hid hLV
        clear CC hl0 hLV hgood hpos hlv7 hl15 hkid hval hki hkj
        go_wp2_with (go_at_call 61; refine HCC.out.mono ?_)
        rintro e V3 ⟨rfl, hk3⟩
        have hby3 := HU.out.1.kept hk3 HU.out.1.lt
        have q0 := hby3.c0
        have q1 := hby3.c1
        obtain ⟨dn, hdn⟩ : ∃ dn, done.length = dn := ⟨_, rfl⟩
        have hdl : dn + 1 < ws.length := by
          have h1 : ws.length = done.length + (r.length + 2) := by rw [HD.out.1]; simp
          omega
        have hk3W : KeptIn (· < W.heap.size) W V3 := HU.out.2.1.go hk3
        have hrow3 : V3.ownsRow w.heap.size 105 4 v0 dn xs := by
          rw [← hdn]
          exact rowS_block HD.out.2.2.2.1 fun g' e => hk3W.block g' (rowS_lt HD.out.2.2.2.1 g' e).2
        have HROW := Lib.hid hrow3
        have HB3 := Lib.hid (And.intro hdn (And.intro hdl (And.intro hk3W (And.intro hk3 hby3))))
        have hb3 : w.heap.size ≤ V3.heap.size := Nat.le_trans HD.out.2.2.2.2.2.1.size hk3W.size
        have hmx : dn + 1 ≤ maxLen := by unfold maxLen; omega
        have hb48 : (dn + 1) * 48 ≤ 140737488355328 := by omega
        clear hdn hk3W hk3 hrow3 HCC hdl hby3
        go_wp2_with (at_builtin; refine wpList_append_own _ rfl _ _ 101 rfl w.heap.size 105 ii _ 4 48 Try.underlying101 hii hz0 hz1 hz2 rfl (by decide) _ _ _ rfl (HROW.out.alloc _) ⟨V3.heap.size, 0, none⟩ 1 1 [.int .i64 LV, .slice (some ⟨g, 0, none⟩) m cg, .int .i64 (ki : Int), .int .i64 (kj : Int)] rfl rfl (World.news_of_block (cs := #[.int .i64 LV, .slice (some ⟨g, 0, none⟩) m cg, .int .i64 (ki : Int), .int .i64 (kj : Int)]) (t := 105) (fr := (0, 0)) (heap_alloc_new V3 _)) (by simp [Value.oneCell']) hmx hb48 (by rw [World.size_alloc]; exact Nat.le_succ_of_le hb3) ?_)
        intro v' w8 hown' hgrow _
        have hka : KeptIn (· < V3.heap.size) V3 (V3.alloc (.cells #[.int .i64 LV, .slice (some ⟨g, 0, none⟩) m cg, .int .i64 (ki : Int), .int .i64 (kj : Int)] 105)) := (KeptIn.refl _ V3).alloc (fun _ h => h) _
        have hkB : KeptIn (· < U.heap.size) U (V3.alloc (.cells #[.int .i64 LV, .slice (some ⟨g, 0, none⟩) m cg, .int .i64 (ki : Int), .int .i64 (kj : Int)] 105)) := HB3.out.2.2.2.1.go hka
        have hra : (V3.alloc (.cells #[.int .i64 LV, .slice (some ⟨g, 0, none⟩) m cg, .int .i64 (ki : Int), .int .i64 (kj : Int)] 105)).ownsRow w.heap.size 105 4 v0 dn xs := HROW.out.alloc _
        have hfr : st.fr = ki := HD.out.2.1.2.2.2.1.trans HG.out.2.1
        have hto : st.to = kj := by rw [HD.out.2.1.2.2.2.2.1, hfr]; exact HG.out.2.2
        have hw8 := way_more (cg := cg) (st := st) HD.out.2.2.2.2.1 (HB3.out.2.2.1.go hka) hra hgrow (HU.out.2.2.1.old hkB) (HTY.out.old hkB) (Nat.lt_of_lt_of_le HD.out.2.2.1.lt HU.out.2.2.2)
        rw [HLV.out, HM.out, hfr, hto] at hw8
        have hkF : KeptIn (· < w.heap.size) w w8 := (HD.out.2.2.2.2.2.1.go (HB3.out.2.2.1.go hka)).grown (fun _ h => h) hgrow fun g' e => Nat.not_lt.2 (rowS_lt hra g' e).1
        have hkT : KeptIn (fun k => TyP (V3.alloc (.cells #[.int .i64 LV, .slice (some ⟨g, 0, none⟩) m cg, .int .i64 (ki : Int), .int .i64 (kj : Int)] 105)) k) (V3.alloc (.cells #[.int .i64 LV, .slice (some ⟨g, 0, none⟩) m cg, .int .i64 (ki : Int), .int .i64 (kj : Int)] 105)) w8 := ⟨hgrow.os, hgrow.tape, hgrow.output, hgrow.size, fun k hT => hgrow.block k hT.lt fun e => by
          obtain ⟨cs, fr, hc⟩ := hT
          exact rowS_ne hra hc (by decide) e.symm⟩
        have hps8 : IsPs w8 (some ⟨g, 0, none⟩) st.ps := psAt (HU.out.2.2.1.old hkB) hkT fun p e => by cases e; exact (HTY.out.old hkB).1
        have hbyA := HB3.out.2.2.2.2.kept hka HB3.out.2.2.2.2.lt
        have hby8 : BoxL y LV (some ⟨g, 0, none⟩) m cg w8 := (hgrow.block y hbyA.lt fun e => rowS_ne hra hbyA (by decide) e.symm).trans hbyA
        have hbdA := HD.out.2.2.1.kept (HB3.out.2.2.1.go hka) HD.out.2.2.1.lt
        have hbd8 : BoxD B q root lv lo hi w8 := (hgrow.block B hbdA.lt fun e => rowS_ne hra hbdA (by decide) e.symm).trans hbdA
        have c0 := hby8.c0
        have c1 := hby8.c1
        have c4 := hbd8.c4
        have HCT := Lib.hid (CT.out w8 hps8)
        have HF5 := Lib.hid hps8.fits
        have HF := Lib.hid (And.intro hw8 (And.intro hkF (And.intro hbd8 (And.intro hown' hfr))))
        clear hra hka hkB hfr hto hw8 hkF hkT hps8 hbyA hby8 hbdA hbd8 hown' hgrow HROW CT HU HTY q0 q1
        go_wp2_with (go_at_call 62; refine HCT.out.mono ?_)
        rintro e V4 ⟨rfl, hk4⟩
        obtain ⟨vv, hvv⟩ : ∃ vv, valAt st.ps ki = vv := ⟨_, rfl⟩
        obtain ⟨kk, hkk⟩ : ∃ kk, keyAt st.ps ki = kk := ⟨_, rfl⟩
        obtain ⟨hh, hhh⟩ : ∃ hh, highOf st.ps ki hi = hh := ⟨_, rfl⟩
        rw [hvv, hkk, hhh]
        unfold leadV
        have hbd4 := HF.out.2.2.1.kept hk4 HF.out.2.2.1.lt
        have e0 := hbd4.c0
        have e1 := hbd4.c1
        have e2 := hbd4.c2
        have e3 := hbd4.c3
        have e4 := hbd4.c4
        have f0 := hbd4.f0
        have f1 := hbd4.f1
        have f2 := hbd4.f2
        have f3 := hbd4.f3
        have f4 := hbd4.f4
        have hway : WayG N k (t :: r) false (LV - 1) kk hh vv := by
          have := HD.out.2.1.2.2.2.2.2
          rw [HLV.out, HF.out.2.2.2.2, hkk, hhh, hvv] at this
          exact this
        have hrw := HF.out.2.2.2.1
        have hHI : hh < 18446744073709551616 := by
          rw [← hhh]
          exact highOf_lt _ _ _ HF5.out HD.out.2.2.2.2.2.2.1
        have HJ2 : Hid (DsI w N k B ws v' (((((V4.setCell ⟨B, 0, none⟩ (.int .i64 (vv : Int))).setCell ⟨B, 1, none⟩ (.bool false)).setCell ⟨B, 2, none⟩ (.int .i64 (LV - 1))).setCell ⟨B, 3, none⟩ (.int .u64 (kk : Int))).setCell ⟨B, 4, none⟩ (.int .u64 (hh : Int)))) := Lib.hid (by
          refine ⟨done ++ [st], t :: r, false, LV - 1, kk, hh, vv, _, by rw [HD.out.1]; simp, hway, hbd4.set, ?_, ((HF.out.1.old hk4).kept leadSet fun k h1 _ => Nat.ne_of_gt h1), ?_, hHI⟩
          · rw [List.length_append, HB3.out.1]
            exact rowS_block hrw fun g' e => (leadSet.block g' fun e5 => rowS_ne hrw HF.out.2.2.1 (by decide) (by rw [← e5]; exact e)).trans (hk4.block g' (rowS_lt hrw g' e).2)
          · exact (HF.out.2.1.go hk4).trans (leadSet.mono fun k h1 e => by rw [e] at h1; exact absurd h1 (Nat.not_lt.2 HBB.out)))
        have hsl := slLen_row hrw
        have hs0 : slLen v0 = dn := by rw [← HB3.out.1]; exact slLen_row HD.out.2.2.2.1
        have hdn : dn < nn := by rw [← HNN.out]; exact Nat.lt_of_succ_lt HB3.out.2.1
        clear hway hrw hHI hbd4 hk4 HF HD HB3 c0 c1 c4 hvv hkk hhh HCT
        go_wp2_with fail
        go_roundw
        case rel => exact ⟨_, _, rfl, rfl, HJ2⟩
        case measure =>
          rw [hsl, hs0]
          exact ds_meas nn dn hdn

end Go.Proofs.Ytbnpabpkaebojaa
/- Trees: the mathematics of layer 8 without memory. Of no program. -/
set_option linter.unusedVariables false
namespace Go.Proofs.Ytbnpabpkaebojaa
open Go.RowKit

/-- Pairs rise. -/
def Srt (ps : Pairs) : Prop := ps.Pairwise fun a b => a.1 < b.1
theorem rises_srt (ps : Pairs) : rises ps = true ↔ Srt ps := by
  constructor
  · intro h
    unfold Srt
    rw [List.pairwise_iff_getElem]
    intro i j hi hj hij
    have := rises_lt h hij hj
    rwa [keyAt_get hi, keyAt_get hj] at this
  · intro h
    rw [rises_iff]
    intro i hi
    rw [keyAt_get (by omega), keyAt_get hi]
    exact (List.pairwise_iff_getElem.1 h) i (i + 1) (by omega) hi (by omega)

/-- What a row becomes if these pairs stand at a key. -/
def chg (xs : Pairs) (k : Nat) (qs : Pairs) : Pairs := (qs.filter fun p => decide (p.1 < k)) ++ xs ++ qs.filter fun p => decide (k < p.1)

theorem filter_lt_take {qs : Pairs} (h : Srt qs) (k : Nat) : (qs.filter fun p => decide (p.1 < k)) = qs.take (belowK qs k) := by
  induction qs with
  | nil => rfl
  | cons p r ih =>
    obtain ⟨h1, h2⟩ := List.pairwise_cons.1 h
    unfold belowK at ih ⊢
    rw [List.filter_cons, List.countP_cons]
    by_cases hp : p.1 < k
    · simp [hp, ih h2]
    · have h3 : (r.filter fun p => decide (p.1 < k)) = [] := by
        rw [List.filter_eq_nil_iff]
        intro q hq
        have := h1 q hq
        simp; omega
      have h4 : (r.countP fun p => decide (p.1 < k)) = 0 := by
        rw [List.countP_eq_zero]
        intro q hq
        have := h1 q hq
        simp; omega
      simp [hp, h3, h4]

theorem filter_gt_drop {qs : Pairs} (h : Srt qs) (k : Nat) : (qs.filter fun p => decide (k < p.1)) = qs.drop (toOf qs k) := by
  induction qs with
  | nil => simp [toOf, belowK, hasK]
  | cons p r ih =>
    obtain ⟨h1, h2⟩ := List.pairwise_cons.1 h
    rw [List.filter_cons]
    by_cases hp : p.1 < k
    · have e : toOf (p :: r) k = toOf r k + 1 := by
        have a : hasK (p :: r) k = hasK r k := by
          have : (p.1 == k) = false := by rw [beq_eq_false_iff_ne]; omega
          simp [hasK, this]
        have b : belowK (p :: r) k = belowK r k + 1 := by simp [belowK, hp]
        unfold toOf
        rw [a, b]
        split <;> rfl
      rw [e, if_neg (by simp; omega), ih h2]; rfl
    · have h4 : belowK (p :: r) k = 0 := by
        unfold belowK
        rw [List.countP_eq_zero]
        intro q hq
        rcases List.mem_cons.1 hq with rfl | hq
        · simpa using hp
        · have := h1 q hq
          simp; omega
      have h5 : (r.filter fun p => decide (k < p.1)) = r := by
        rw [List.filter_eq_self]
        intro q hq
        have := h1 q hq
        simp; omega
      unfold toOf
      rw [h4, h5]
      by_cases hk : p.1 = k
      · have : hasK (p :: r) k = true := by simp [hasK, hk]
        simp [this, hk]
      · have : hasK (p :: r) k = false := by
          have a : (p.1 == k) = false := by rw [beq_eq_false_iff_ne]; exact hk
          have b : hasK r k = false := by
            unfold hasK
            rw [List.any_eq_false]
            intro q hq
            have := h1 q hq
            simp; omega
          unfold hasK at b ⊢
          simp [a, b]
        simp [this]
        omega

theorem chg_leaf {qs : Pairs} (h : Srt qs) (xs : Pairs) (k : Nat) : qs.take (belowK qs k) ++ xs ++ qs.drop (toOf qs k) = chg xs k qs := by
  unfold chg
  rw [filter_lt_take h, filter_gt_drop h]

theorem chg_mid {a b c xs : Pairs} {k : Nat} (ha : ∀ p ∈ a, p.1 < k) (hc : ∀ p ∈ c, k < p.1) : chg xs k (a ++ b ++ c) = a ++ chg xs k b ++ c := by
  have a1 : (a.filter fun p => decide (p.1 < k)) = a := by rw [List.filter_eq_self]; intro p hp; simpa using ha p hp
  have a2 : (a.filter fun p => decide (k < p.1)) = [] := by rw [List.filter_eq_nil_iff]; intro p hp; have := ha p hp; simp; omega
  have c1 : (c.filter fun p => decide (k < p.1)) = c := by rw [List.filter_eq_self]; intro p hp; simpa using hc p hp
  have c2 : (c.filter fun p => decide (p.1 < k)) = [] := by rw [List.filter_eq_nil_iff]; intro p hp; have := hc p hp; simp; omega
  unfold chg
  simp only [List.filter_append, a1, a2, c1, c2, List.nil_append, List.append_nil, List.append_assoc]

theorem srt_chg {qs xs : Pairs} {k : Nat} (h : Srt qs) (hx : Srt xs) (hk : ∀ p ∈ xs, p.1 = k) : Srt (chg xs k qs) := by
  unfold chg Srt
  rw [List.pairwise_append, List.pairwise_append]
  refine ⟨⟨h.filter _, hx, ?_⟩, h.filter _, ?_⟩
  · intro p hp q hq
    have := (List.mem_filter.1 hp).2
    rw [hk q hq]
    simpa using this
  · intro p hp q hq
    have h2 := (List.mem_filter.1 hq).2
    rcases List.mem_append.1 hp with hp | hp
    · have := (List.mem_filter.1 hp).2
      simp at this h2
      omega
    · rw [hk p hp]
      simpa using h2

theorem mem_chg {qs xs : Pairs} {k : Nat} {p : Nat × Nat} (h : p ∈ chg xs k qs) : p ∈ qs ∨ p ∈ xs := by
  unfold chg at h
  simp only [List.mem_append, List.mem_filter] at h
  rcases h with (h | h) | h
  · exact .inl h.1
  · exact .inr h
  · exact .inl h.1

/-- Pairs that lead to subtrees: what these have, in order. -/
def Kids (S : Nat → Pairs → List Nat → Prop) : Pairs → Pairs → List Nat → Prop
  | [], qs, pg => qs = [] ∧ pg = []
  | kv :: r, qs, pg => ∃ q1 q2 g1 g2, qs = q1 ++ q2 ∧ pg = g1 ++ g2 ∧ S kv.2 q1 g1 ∧ 0 < q1.length ∧ keyAt q1 0 = kv.1 ∧ Kids S r q2 g2

/-- A sound tree of a level: its pairs, its pages. -/
def Snd (N : List Nd) : Nat → Nat → Pairs → List Nat → Prop
  | 0, p, qs, pg => nodeOf N p = some (0, qs) ∧ 0 < qs.length ∧ qs.length ≤ 15 ∧ pg = [p]
  | l + 1, p, qs, pg => ∃ ps g, nodeOf N p = some (l + 1, ps) ∧ 0 < ps.length ∧ ps.length ≤ 15 ∧ Kids (Snd N l) ps qs g ∧ pg = p :: g

/-- What a node's pairs lead to. -/
def Body (N : List Nd) : Nat → Pairs → Pairs → List Nat → Prop
  | 0, ps, qs, pg => ps = qs ∧ pg = []
  | l + 1, ps, qs, pg => Kids (Snd N l) ps qs pg

theorem snd_iff {N : List Nd} {l p : Nat} {qs : Pairs} {pg : List Nat} : Snd N l p qs pg ↔ ∃ ps g, nodeOf N p = some (l, ps) ∧ 0 < ps.length ∧ ps.length ≤ 15 ∧ Body N l ps qs g ∧ pg = p :: g := by
  cases l with
  | zero =>
    constructor
    · rintro ⟨h1, h2, h3, rfl⟩
      exact ⟨qs, [], h1, h2, h3, ⟨rfl, rfl⟩, rfl⟩
    · rintro ⟨ps, g, h1, h2, h3, ⟨rfl, rfl⟩, rfl⟩
      exact ⟨h1, h2, h3, rfl⟩
  | succ l => exact Iff.rfl

theorem Kids.mono {S T : Nat → Pairs → List Nat → Prop} (h : ∀ v q g, S v q g → T v q g) : ∀ {ps qs : Pairs} {pg : List Nat}, Kids S ps qs pg → Kids T ps qs pg := by
  intro ps
  induction ps with
  | nil => intro qs pg h; exact h
  | cons kv r ih =>
    rintro qs pg ⟨q1, q2, g1, g2, e1, e2, h1, h2, h3, h4⟩
    exact ⟨q1, q2, g1, g2, e1, e2, h _ _ _ h1, h2, h3, ih h4⟩

theorem Kids.append {S : Nat → Pairs → List Nat → Prop} : ∀ {a b qa qb : Pairs} {ga gb : List Nat}, Kids S a qa ga → Kids S b qb gb → Kids S (a ++ b) (qa ++ qb) (ga ++ gb) := by
  intro a
  induction a with
  | nil => rintro b qa qb ga gb ⟨rfl, rfl⟩ h; exact h
  | cons kv r ih =>
    rintro b qa qb ga gb ⟨q1, q2, g1, g2, rfl, rfl, h1, h2, h3, h4⟩ h
    exact ⟨q1, q2 ++ qb, g1, g2 ++ gb, by simp, by simp, h1, h2, h3, ih h4 h⟩

theorem Kids.split {S : Nat → Pairs → List Nat → Prop} : ∀ {a b qs : Pairs} {pg : List Nat}, Kids S (a ++ b) qs pg → ∃ qa qb ga gb, qs = qa ++ qb ∧ pg = ga ++ gb ∧ Kids S a qa ga ∧ Kids S b qb gb := by
  intro a
  induction a with
  | nil => intro b qs pg h; exact ⟨[], qs, [], pg, rfl, rfl, ⟨rfl, rfl⟩, h⟩
  | cons kv r ih =>
    rintro b qs pg ⟨q1, q2, g1, g2, rfl, rfl, h1, h2, h3, h4⟩
    obtain ⟨qa, qb, ga, gb, rfl, rfl, k1, k2⟩ := ih h4
    exact ⟨q1 ++ qa, qb, g1 ++ ga, gb, by simp, by simp, ⟨q1, qa, g1, ga, rfl, rfl, h1, h2, h3, k1⟩, k2⟩

theorem Kids.pos {S : Nat → Pairs → List Nat → Prop} {ps qs : Pairs} {pg : List Nat} (h : Kids S ps qs pg) (h0 : 0 < ps.length) : 0 < qs.length ∧ keyAt qs 0 = keyAt ps 0 := by
  cases ps with
  | nil => cases h0
  | cons kv r =>
    obtain ⟨q1, q2, g1, g2, rfl, rfl, h1, h2, h3, h4⟩ := h
    refine ⟨by simp; omega, ?_⟩
    cases q1 with
    | nil => cases h2
    | cons p t => exact h3

theorem Kids.nil {S : Nat → Pairs → List Nat → Prop} {ps qs : Pairs} {pg : List Nat} (h : Kids S ps qs pg) (h0 : qs = []) : ps = [] := by
  cases ps with
  | nil => rfl
  | cons kv r =>
    have := (h.pos (by simp)).1
    rw [h0] at this
    cases this

/-- The keys of a node are among those of its pairs. -/
theorem Kids.key {S : Nat → Pairs → List Nat → Prop} : ∀ {ps qs : Pairs} {pg : List Nat}, Kids S ps qs pg → ∀ p ∈ ps, ∃ q ∈ qs, q.1 = p.1 := by
  intro ps
  induction ps with
  | nil => intro qs pg h p hp; cases hp
  | cons kv r ih =>
    rintro qs pg ⟨q1, q2, g1, g2, rfl, rfl, h1, h2, h3, h4⟩ p hp
    rcases List.mem_cons.1 hp with rfl | hp
    · cases q1 with
      | nil => cases h2
      | cons x t => exact ⟨x, by simp, h3⟩
    · obtain ⟨q, hq, e⟩ := ih h4 p hp
      exact ⟨q, List.mem_append_right _ hq, e⟩

theorem Kids.srt {S : Nat → Pairs → List Nat → Prop} : ∀ {ps qs : Pairs} {pg : List Nat}, Kids S ps qs pg → Srt qs → Srt ps := by
  intro ps
  induction ps with
  | nil => intro qs pg h hs; exact .nil
  | cons kv r ih =>
    rintro qs pg ⟨q1, q2, g1, g2, rfl, rfl, h1, h2, h3, h4⟩ hs
    obtain ⟨s1, s2, s3⟩ := List.pairwise_append.1 hs
    refine List.pairwise_cons.2 ⟨fun p hp => ?_, ih h4 s2⟩
    obtain ⟨q, hq, e⟩ := h4.key p hp
    cases q1 with
    | nil => cases h2
    | cons x t =>
      rw [← e, ← h3]
      exact s3 x (by simp) q hq

theorem body_srt {N : List Nd} {l : Nat} {ps qs : Pairs} {pg : List Nat} (h : Body N l ps qs pg) (hs : Srt qs) : Srt ps := by
  cases l with
  | zero => obtain ⟨rfl, _⟩ := h; exact hs
  | succ l => exact Kids.srt h hs
theorem body_pos {N : List Nd} {l : Nat} {ps qs : Pairs} {pg : List Nat} (h : Body N l ps qs pg) (h0 : 0 < ps.length) : 0 < qs.length ∧ keyAt qs 0 = keyAt ps 0 := by
  cases l with
  | zero => obtain ⟨rfl, _⟩ := h; exact ⟨h0, rfl⟩
  | succ l => exact Kids.pos h h0
theorem body_key {N : List Nd} {l : Nat} {ps qs : Pairs} {pg : List Nat} (h : Body N l ps qs pg) : ∀ p ∈ ps, ∃ q ∈ qs, q.1 = p.1 := by
  cases l with
  | zero => obtain ⟨rfl, _⟩ := h; exact fun p hp => ⟨p, hp, rfl⟩
  | succ l => exact Kids.key h

theorem nodeOf_app {N M : List Nd} {p : Nat} {nd : Nd} (h : nodeOf N p = some nd) : nodeOf (N ++ M) p = some nd := by
  unfold nodeOf at h ⊢
  split at h
  · cases h
  · rename_i h0
    rw [if_neg h0, List.getElem?_append_left (List.getElem?_eq_some_iff.1 h).1]
    exact h
theorem nodeOf_le {N : List Nd} {p : Nat} {nd : Nd} (h : nodeOf N p = some nd) : 1 ≤ p ∧ p ≤ N.length := by
  obtain ⟨i, hi, e, _⟩ := nodeOf_at h
  omega

theorem snd_app {N M : List Nd} : ∀ {l p : Nat} {qs : Pairs} {pg : List Nat}, Snd N l p qs pg → Snd (N ++ M) l p qs pg := by
  intro l
  induction l with
  | zero => rintro p qs pg ⟨h1, h2⟩; exact ⟨nodeOf_app h1, h2⟩
  | succ l ih =>
    rintro p qs pg ⟨ps, g, h1, h2, h3, h4, h5⟩
    exact ⟨ps, g, nodeOf_app h1, h2, h3, h4.mono fun _ _ _ => ih, h5⟩
theorem body_app {N M : List Nd} {l : Nat} {ps qs : Pairs} {pg : List Nat} (h : Body N l ps qs pg) : Body (N ++ M) l ps qs pg := by
  cases l with
  | zero => exact h
  | succ l => exact Kids.mono (fun _ _ _ => snd_app) h

/-- Pages are there. -/
theorem kids_pages {S : Nat → Pairs → List Nat → Prop} {n : Nat} (hS : ∀ v q g, S v q g → ∀ x ∈ g, 1 ≤ x ∧ x ≤ n) : ∀ {ps qs : Pairs} {pg : List Nat}, Kids S ps qs pg → ∀ x ∈ pg, 1 ≤ x ∧ x ≤ n := by
  intro ps
  induction ps with
  | nil => rintro qs pg ⟨_, rfl⟩ x hx; cases hx
  | cons kv r ih =>
    rintro qs pg ⟨q1, q2, g1, g2, rfl, rfl, h1, h2, h3, h4⟩ x hx
    rcases List.mem_append.1 hx with hx | hx
    · exact hS _ _ _ h1 x hx
    · exact ih h4 x hx
theorem snd_pages {N : List Nd} : ∀ {l p : Nat} {qs : Pairs} {pg : List Nat}, Snd N l p qs pg → ∀ x ∈ pg, 1 ≤ x ∧ x ≤ N.length := by
  intro l
  induction l with
  | zero =>
    rintro p qs pg ⟨h1, _, _, rfl⟩ x hx
    rw [List.mem_singleton.1 hx]
    exact nodeOf_le h1
  | succ l ih =>
    rintro p qs pg ⟨ps, g, h1, h2, h3, h4, rfl⟩ x hx
    rcases List.mem_cons.1 hx with rfl | hx
    · exact nodeOf_le h1
    · exact kids_pages (fun _ _ _ => ih) h4 x hx
theorem body_pages {N : List Nd} {l : Nat} {ps qs : Pairs} {pg : List Nat} (h : Body N l ps qs pg) : ∀ x ∈ pg, 1 ≤ x ∧ x ≤ N.length := by
  cases l with
  | zero => obtain ⟨_, rfl⟩ := h; intro x hx; cases hx
  | succ l => exact kids_pages (fun _ _ _ => snd_pages) h

/-- A kid's page is a page. -/
theorem snd_page {N : List Nd} {l p : Nat} {qs : Pairs} {pg : List Nat} (h : Snd N l p qs pg) : 1 ≤ p ∧ p ≤ N.length := by
  obtain ⟨ps, g, h1, _⟩ := snd_iff.1 h
  exact nodeOf_le h1

end Go.Proofs.Ytbnpabpkaebojaa
