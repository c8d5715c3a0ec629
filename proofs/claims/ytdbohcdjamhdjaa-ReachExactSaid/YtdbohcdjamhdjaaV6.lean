import Derived.Test.YtdbohcdjamhdjaaV4
import Derived.Test.YtdbohcdjamhdjaaLf6W
import Derived.Deep.AppendLies
/- Package tree's childFor, stepInLeaf, isEmpty. -/
set_option linter.unusedVariables false
namespace Go.Proofs.Ytdbohcdjamhdjaa
open Go.RowKit

theorem run_max8 {P : Program} {w : World} (ts : Array TypeId) (t : TypeId) (k k' : IntKind) (x y : Int) : (Builtin.max_ ts t #[.int k x, .int k' y]).run P w = .ok (.int k (max x y)) w := by
  rw [run_max_int2]
  congr 2
  split <;> omega
attribute [local go_sem high] run_max8

/-- By which pair one comes to a key. -/
def kidOf (ps : Pairs) (k : Nat) : Nat := uptoK ps k - 1

theorem trChildFor (lv : Int) (a : Option Addr) (cap : Nat) (ps : Pairs) (k : Nat) (w : World) (h : IsPs w a ps) (hr : rises ps = true) :
    Calls Try.prog 49 #[leafV lv a ps.length cap, .int .u64 (k : Int)] w fun e w' => e = .returned (.int .i64 (kidOf ps k : Int)) ∧ KeptIn (· < w.heap.size) w w' := by
  have C := lfChild lv a cap ps k
  obtain ⟨W, hW⟩ : ∃ W, w.alloc (.cells #[.int .i64 lv, .slice a ps.length cap] 27) = W := ⟨_, rfl⟩
  have hkW : KeptIn (· < w.heap.size) w W := by rw [← hW]; exact (KeptIn.refl _ w).alloc (fun _ h => h) _
  have C := C W (h.old hkW) hr
  have hbl : BoxL w.heap.size lv a ps.length cap W := by rw [← hW]; exact BoxL.new w _ _ _ _
  obtain ⟨x, hx⟩ : ∃ x, w.heap.size = x := ⟨_, rfl⟩
  rw [hx] at hbl
  have hmax : max ((uptoK ps k : Int) - 1) 0 = (kidOf ps k : Int) := by unfold kidOf; omega
  obtain ⟨m, hm⟩ : ∃ m, ps.length = m := ⟨_, rfl⟩
  rw [hm] at hbl hW C ⊢
  generalize kidOf ps k = r at *
  generalize (uptoK ps k : Int) - 1 = z at *
  have c0 := hbl.c0
  have c1 := hbl.c1
  have HC := Lib.hid C
  have HK := Lib.hid hkW
  unfold leafV at *
  clear h hr C hbl hkW hm
  go_enter Try.func49, Try.ntmps49
  go_wp2_with (go_at_call 72; refine HC.out.mono ?_)
  rintro e V ⟨rfl, hk⟩
  have HV := Lib.hid (HK.out.go hk)
  clear hk
  go_wp2_with fail
  go_ret
  exact ⟨rfl, HV.out⟩

/-- A step as a value. -/
def stepV (lv : Int) (a : Option Addr) (n cap : Nat) (fr to : Nat) : Value := .agg #[.int .i64 lv, .slice a n cap, .int .i64 (fr : Int), .int .i64 (to : Int)]

theorem results_step {fn : Func} {p : Tmp} (h : fn.results = #[.cell p 109]) (tmps : Array Value) (w : World) (x : Nat) (v0 v1 v2 v3 : Value)
    (hp : tmps.getD p undef = .pointer (some ⟨x, 0, none⟩)) (hb : w.heap[x]? = some (.cells #[v0, v1, v2, v3] 109 (0, 0))) : (results fn tmps).run Try.prog w = .ok (.agg #[v0, v1, v2, v3]) w := by
  have c0 : w.cell? ⟨x, 0, none⟩ = some v0 := by simp [World.cell?, hb]
  have c1 : w.cell? ⟨x, 1, none⟩ = some v1 := by simp [World.cell?, hb]
  have c2 : w.cell? ⟨x, 2, none⟩ = some v2 := by simp [World.cell?, hb]
  have c3 : w.cell? ⟨x, 3, none⟩ = some v3 := by simp [World.cell?, hb]
  have hp' : tmps[p]?.getD undef = .pointer (some ⟨x, 0, none⟩) := by simpa using hp
  simp [results, h, hp', asAddr, c0, c1, c2, c3, go_sem]

theorem trEmpty (lv : Int) (a : Option Addr) (n cap fr to : Nat) (w : World) :
    Calls Try.prog 51 #[stepV lv a n cap fr to] w fun e w' => e = .returned (.bool (decide (fr = to))) ∧ KeptIn (· < w.heap.size) w w' := by
  unfold stepV
  obtain ⟨b, hb⟩ : ∃ b, decide (fr = to) = b := ⟨_, rfl⟩
  have hb' : ((fr : Int) == (to : Int)) = b := by
    rw [← hb]
    by_cases e : fr = to
    · simp [e]
    · rw [decide_eq_false e, beq_eq_false_iff_ne]; omega
  rw [hb]
  clear hb
  go_enter Try.func51, Try.ntmps51
  go_wp2_with fail
  go_ret
  exact ⟨rfl, (KeptIn.refl _ w).alloc (fun _ h => h) _⟩

theorem il_nums (r j : Nat) (hj : r + 1 = j) (h : r ≤ 1000) : wrap64 ((r : Int) + 1) = (j : Int) ∧ IntKind.i64.wrap ((r : Int) + 1) = (j : Int) := by
  refine ⟨by unfold wrap64; omega, by rw [IntKind.wrap_i64]; omega⟩
theorem belowK_le (ps : Pairs) (k : Nat) : belowK ps k ≤ ps.length := List.countP_le_length

/-- Where a step in a leaf ends. -/
def toOf (ps : Pairs) (k : Nat) : Nat := if hasK ps k then belowK ps k + 1 else belowK ps k

set_option maxRecDepth 100000 in
theorem trInLeaf (lv : Int) (a : Option Addr) (cap : Nat) (ps : Pairs) (k : Nat) (w : World) (h : IsPs w a ps) (hr : rises ps = true) (hk : k < 18446744073709551616) (hl : ps.length ≤ 1000) :
    Calls Try.prog 48 #[leafV lv a ps.length cap, .int .u64 (k : Int)] w fun e w' => e = .returned (stepV lv a ps.length cap (belowK ps k) (toOf ps k)) ∧ KeptIn (· < w.heap.size) w w' := by
  obtain ⟨W, hW⟩ : ∃ W, (w.alloc (.cells #[.int .i64 lv, .slice a ps.length cap] 27)).alloc (.cells #[.int .i64 0, .slice none 0 0, .int .i64 0, .int .i64 0] 109) = W := ⟨_, rfl⟩
  have hkW : KeptIn (· < w.heap.size) w W := by rw [← hW]; exact ((KeptIn.refl _ w).alloc (fun _ h => h) _).alloc (fun _ h => h) _
  have C := lfFind lv a cap ps k W (h.old hkW) hr hk
  obtain ⟨x, hx⟩ : ∃ x, w.heap.size = x := ⟨_, rfl⟩
  have hbl : BoxL x lv a ps.length cap W := by
    rw [← hW, ← hx]
    exact (BoxL.new w _ _ _ _).kept ((KeptIn.refl _ _).alloc (fun _ h => h) _) (by simp)
  have hst : W.heap[x + 1]? = some (.cells #[.int .i64 0, .slice none 0 0, .int .i64 0, .int .i64 0] 109 (0, 0)) := by
    rw [← hW, ← hx, show w.heap.size + 1 = (w.alloc (.cells #[.int .i64 lv, .slice a ps.length cap] 27)).heap.size by simp]
    exact heap_alloc_new _ _
  obtain ⟨j, hj⟩ : ∃ j, belowK ps k + 1 = j := ⟨_, rfl⟩
  obtain ⟨n1, n2⟩ := il_nums _ j hj (Nat.le_trans (belowK_le ps k) hl)
  unfold toOf
  rw [hj]
  obtain ⟨m, hm⟩ : ∃ m, ps.length = m := ⟨_, rfl⟩
  rw [hm] at hbl hW C ⊢
  generalize belowK ps k = r at *
  generalize hasK ps k = b at *
  have c0 := hbl.c0
  have c1 := hbl.c1
  have HC := Lib.hid C
  have HWB := Lib.hid (And.intro hkW (And.intro hbl hst))
  unfold leafV stepV at *
  clear h hr C hbl hkW hm hst hj hk hl
  cases b
  · rw [if_neg (by decide)]
    clear n1 n2
    go_enter Try.func48, Try.ntmps48
    go_wp2_with (go_at_call 71; refine HC.out.mono ?_)
    rintro e V ⟨rfl, hk⟩
    have hbV := HWB.out.2.1.kept hk HWB.out.2.1.lt
    have hsV := (hk.block (x + 1) (Array.getElem?_eq_some_iff.1 HWB.out.2.2).1).trans HWB.out.2.2
    have q0 := hbV.c0
    have q1 := hbV.c1
    have r0 : V.cell? ⟨x + 1, 0, none⟩ = some (.int .i64 0) := by simp [World.cell?, hsV]
    have r1 : V.cell? ⟨x + 1, 1, none⟩ = some (.slice none 0 0) := by simp [World.cell?, hsV]
    have r2 : V.cell? ⟨x + 1, 2, none⟩ = some (.int .i64 0) := by simp [World.cell?, hsV]
    have r3 : V.cell? ⟨x + 1, 3, none⟩ = some (.int .i64 0) := by simp [World.cell?, hsV]
    have f0 : V.frozen? ⟨x + 1, 0, none⟩ = false := by simp [World.frozen?, hsV]
    have f1 : V.frozen? ⟨x + 1, 1, none⟩ = false := by simp [World.frozen?, hsV]
    have f2 : V.frozen? ⟨x + 1, 2, none⟩ = false := by simp [World.frozen?, hsV]
    have f3 : V.frozen? ⟨x + 1, 3, none⟩ = false := by simp [World.frozen?, hsV]
    have HV := Lib.hid (And.intro (HWB.out.1.go hk) hsV)
    clear hbV hsV hk
    go_wp2_with fail
    have s1 : (V.setCell ⟨x + 1, 0, none⟩ (.int .i64 lv)).heap[x + 1]? = _ := heap_setCell_same _ _ _ _ _ _ HV.out.2
    have s2 : ((V.setCell ⟨x + 1, 0, none⟩ (.int .i64 lv)).setCell ⟨x + 1, 1, none⟩ (.slice a m cap)).heap[x + 1]? = _ := heap_setCell_same _ _ _ _ _ _ s1
    have s3 : (((V.setCell ⟨x + 1, 0, none⟩ (.int .i64 lv)).setCell ⟨x + 1, 1, none⟩ (.slice a m cap)).setCell ⟨x + 1, 2, none⟩ (.int .i64 (r : Int))).heap[x + 1]? = _ := heap_setCell_same _ _ _ _ _ _ s2
    have s4 : ((((V.setCell ⟨x + 1, 0, none⟩ (.int .i64 lv)).setCell ⟨x + 1, 1, none⟩ (.slice a m cap)).setCell ⟨x + 1, 2, none⟩ (.int .i64 (r : Int))).setCell ⟨x + 1, 3, none⟩ (.int .i64 (r : Int))).heap[x + 1]? = _ := heap_setCell_same _ _ _ _ _ _ s3
    have hkF := (((HV.out.1.setCell (p := ⟨x + 1, 0, none⟩) (by rw [hx]; simp) (.int .i64 lv)).setCell (p := ⟨x + 1, 1, none⟩) (by rw [hx]; simp) (.slice a m cap)).setCell (p := ⟨x + 1, 2, none⟩) (by rw [hx]; simp) (.int .i64 (r : Int))).setCell (p := ⟨x + 1, 3, none⟩) (by rw [hx]; simp) (.int .i64 (r : Int))
    refine bodyPost_ret (results_step rfl _ _ (x + 1) _ _ _ _ rfl s4) rfl ?_
    exact ⟨rfl, hkF⟩
  · rw [if_pos rfl]
    go_enter Try.func48, Try.ntmps48
    go_wp2_with (go_at_call 71; refine HC.out.mono ?_)
    rintro e V ⟨rfl, hk⟩
    have hbV := HWB.out.2.1.kept hk HWB.out.2.1.lt
    have hsV := (hk.block (x + 1) (Array.getElem?_eq_some_iff.1 HWB.out.2.2).1).trans HWB.out.2.2
    have q0 := hbV.c0
    have q1 := hbV.c1
    have r0 : V.cell? ⟨x + 1, 0, none⟩ = some (.int .i64 0) := by simp [World.cell?, hsV]
    have r1 : V.cell? ⟨x + 1, 1, none⟩ = some (.slice none 0 0) := by simp [World.cell?, hsV]
    have r2 : V.cell? ⟨x + 1, 2, none⟩ = some (.int .i64 0) := by simp [World.cell?, hsV]
    have r3 : V.cell? ⟨x + 1, 3, none⟩ = some (.int .i64 0) := by simp [World.cell?, hsV]
    have f0 : V.frozen? ⟨x + 1, 0, none⟩ = false := by simp [World.frozen?, hsV]
    have f1 : V.frozen? ⟨x + 1, 1, none⟩ = false := by simp [World.frozen?, hsV]
    have f2 : V.frozen? ⟨x + 1, 2, none⟩ = false := by simp [World.frozen?, hsV]
    have f3 : V.frozen? ⟨x + 1, 3, none⟩ = false := by simp [World.frozen?, hsV]
    have HV := Lib.hid (And.intro (HWB.out.1.go hk) hsV)
    clear hbV hsV hk
    go_wp2_with fail
    have s1 : (V.setCell ⟨x + 1, 0, none⟩ (.int .i64 lv)).heap[x + 1]? = _ := heap_setCell_same _ _ _ _ _ _ HV.out.2
    have s2 : ((V.setCell ⟨x + 1, 0, none⟩ (.int .i64 lv)).setCell ⟨x + 1, 1, none⟩ (.slice a m cap)).heap[x + 1]? = _ := heap_setCell_same _ _ _ _ _ _ s1
    have s3 : (((V.setCell ⟨x + 1, 0, none⟩ (.int .i64 lv)).setCell ⟨x + 1, 1, none⟩ (.slice a m cap)).setCell ⟨x + 1, 2, none⟩ (.int .i64 (r : Int))).heap[x + 1]? = _ := heap_setCell_same _ _ _ _ _ _ s2
    have s4 : ((((V.setCell ⟨x + 1, 0, none⟩ (.int .i64 lv)).setCell ⟨x + 1, 1, none⟩ (.slice a m cap)).setCell ⟨x + 1, 2, none⟩ (.int .i64 (r : Int))).setCell ⟨x + 1, 3, none⟩ (.int .i64 (j : Int))).heap[x + 1]? = _ := heap_setCell_same _ _ _ _ _ _ s3
    have hkF := (((HV.out.1.setCell (p := ⟨x + 1, 0, none⟩) (by rw [hx]; simp) (.int .i64 lv)).setCell (p := ⟨x + 1, 1, none⟩) (by rw [hx]; simp) (.slice a m cap)).setCell (p := ⟨x + 1, 2, none⟩) (by rw [hx]; simp) (.int .i64 (r : Int))).setCell (p := ⟨x + 1, 3, none⟩) (by rw [hx]; simp) (.int .i64 (j : Int))
    refine bodyPost_ret (results_step rfl _ _ (x + 1) _ _ _ _ rfl s4) rfl ?_
    exact ⟨rfl, hkF⟩

end Go.Proofs.Ytdbohcdjamhdjaa
/- Package tree's descend: the way from the root to the leaf of a key. -/
set_option linter.unusedVariables false
namespace Go.Proofs.Ytdbohcdjamhdjaa
open Go.RowKit

/-- A step: a node, and which of its pairs a change is about. -/
structure Stp where
  lv : Nat
  ps : Pairs
  fr : Nat
  to : Nat
deriving Inhabited

/-- The node of a page. -/
def nodeOf (N : List Nd) (p : Nat) : Option Nd := if p = 0 then none else N[p - 1]?
theorem nodeOf_at {N : List Nd} {p : Nat} {nd : Nd} (h : nodeOf N p = some nd) : ∃ i, ∃ hi : i < N.length, i + 1 = p ∧ N[i] = nd := by
  unfold nodeOf at h
  split at h
  · cases h
  · obtain ⟨hi, e⟩ := List.getElem?_eq_some_iff.1 h
    exact ⟨p - 1, hi, by omega, e⟩

/-- The way of a key down from a lead. -/
def WayG (N : List Nd) (k : Nat) : List Stp → Bool → Int → Nat → Nat → Nat → Prop
  | [], _, _, _, _, _ => False
  | [s], root, lv, lo, hi, p => nodeOf N p = some (0, s.ps) ∧ s.lv = 0 ∧ FitOk root lv lo hi 0 s.ps ∧ s.fr = belowK s.ps k ∧ s.to = toOf s.ps k
  | s :: t :: r, root, lv, lo, hi, p => nodeOf N p = some (s.lv, s.ps) ∧ 0 < s.lv ∧ FitOk root lv lo hi s.lv s.ps ∧ s.fr = kidOf s.ps k ∧ s.to = s.fr + 1 ∧ WayG N k (t :: r) false ((s.lv : Int) - 1) (keyAt s.ps s.fr) (highOf s.ps s.fr hi) (valAt s.ps s.fr)

/-- A slice's room. -/
def CapOk (a : Option Addr) (n cap : Nat) : Prop := n ≤ cap ∧ cap ≤ maxLen ∧ (a = none → cap = 0) ∧ ∀ p, a = some p → ∃ g, p = ⟨g, 0, none⟩
theorem cap_some {g n cap : Nat} (h1 : n ≤ cap) (h2 : cap ≤ maxLen) : CapOk (some ⟨g, 0, none⟩) n cap := ⟨h1, h2, (fun e => by cases e), fun p e => by cases e; exact ⟨g, rfl⟩⟩
/-- The cells of steps: each one's pairs lie at B0 or beyond. -/
def WayC (W : World) (B0 : Nat) : List Value → List Stp → Prop
  | xs, [] => xs = []
  | xs, s :: r => ∃ a cap xs', xs = .int .i64 (s.lv : Int) :: .slice a s.ps.length cap :: .int .i64 (s.fr : Int) :: .int .i64 (s.to : Int) :: xs' ∧ IsPs W a s.ps ∧ (∀ p, a = some p → B0 ≤ p.block ∧ TyP W p.block) ∧ CapOk a s.ps.length cap ∧ WayC W B0 xs' r
theorem WayC.snoc {W : World} {B0 : Nat} : ∀ {ws : List Stp} {xs : List Value} {s : Stp} {a : Option Addr} {cap : Nat}, WayC W B0 xs ws → IsPs W a s.ps → (∀ p, a = some p → B0 ≤ p.block ∧ TyP W p.block) → CapOk a s.ps.length cap →
    WayC W B0 (xs ++ [.int .i64 (s.lv : Int), .slice a s.ps.length cap, .int .i64 (s.fr : Int), .int .i64 (s.to : Int)]) (ws ++ [s]) := by
  intro ws
  induction ws with
  | nil =>
    intro xs s a cap h h1 h2 h3
    obtain rfl : xs = [] := h
    exact ⟨a, cap, [], rfl, h1, h2, h3, rfl⟩
  | cons t r ih =>
    intro xs s a cap h h1 h2 h3
    obtain ⟨a', cap', xs', rfl, k1, k2, k4, k3⟩ := h
    exact ⟨a', cap', _, rfl, k1, k2, k4, ih k3 h1 h2 h3⟩
theorem WayC.kept {W W' : World} {B0 : Nat} {X : Nat → Prop} (hk : KeptIn X W W') (hX : ∀ k, B0 ≤ k → TyP W k → X k) : ∀ {ws : List Stp} {xs : List Value}, WayC W B0 xs ws → WayC W' B0 xs ws := by
  intro ws
  induction ws with
  | nil => intro xs h; exact h
  | cons t r ih =>
    intro xs h
    obtain ⟨a', cap', xs', rfl, k1, k2, k4, k3⟩ := h
    exact ⟨a', cap', xs', rfl, psAt k1 hk (fun p e => hX _ (k2 p e).1 (k2 p e).2), fun p e => ⟨(k2 p e).1, (k2 p e).2.kept (hk.block _ (hX _ (k2 p e).1 (k2 p e).2))⟩, k4, ih k3⟩
theorem WayC.old {W W' : World} {B0 : Nat} {ws : List Stp} {xs : List Value} (h : WayC W B0 xs ws) (hk : KeptIn (· < W.heap.size) W W') : WayC W' B0 xs ws := h.kept hk fun _ _ h => h.lt
theorem WayC.grown {W V w1 : World} {B0 B1 n : Nat} {v : Value} {ys : List Value} {ws : List Stp} {xs : List Value} (h : WayC W B0 xs ws) (hk : KeptIn (· < W.heap.size) W V) (hr : V.ownsRow B1 109 4 v n ys) (hg : V.grownBy w1 v.ownBlock) : WayC w1 B0 xs ws :=
  (h.old hk).kept (X := fun k => TyP V k) ⟨hg.os, hg.tape, hg.output, hg.size, fun k hT => hg.block k hT.lt fun e => by
    obtain ⟨cs, fr, hc⟩ := hT
    exact rowS_ne hr hc (by decide) e.symm⟩ fun _ _ h => h
theorem WayC.length {W : World} {B0 : Nat} : ∀ {ws : List Stp} {xs : List Value}, WayC W B0 xs ws → xs.length = ws.length * 4 := by
  intro ws
  induction ws with
  | nil => intro xs h; obtain rfl : xs = [] := h; rfl
  | cons t r ih =>
    intro xs h
    obtain ⟨a', cap', xs', rfl, _, _, _, k3⟩ := h
    simp [ih k3]; omega

/-- A way in memory, a row of a call's own. -/
def WayR (W : World) (B0 : Nat) (v : Value) (ws : List Stp) : Prop := ∃ xs, W.ownsRow B0 109 4 v ws.length xs ∧ WayC W B0 xs ws

/-- What descend hands back. -/
def DescS (w : World) (ws : List Stp) (e : Ending) (w' : World) : Prop := ∃ v, e = .returned (.tuple #[v, .int .i64 0]) ∧ WayR w' w.heap.size v ws ∧ KeptIn (· < w.heap.size) w w'

def slLen : Value → Nat
  | .slice _ n _ => n
  | _ => 0

theorem infoStep : (Try.prog.info? 109).map (fun i => (i.zero, i.size, i.bytes)) = some (some (.agg #[.int .i64 0, .slice none 0 0, .int .i64 0, .int .i64 0]), 4, 48) := by kernel_rfl

theorem trDescendNil (s : Nat) (k : Nat) (w : World) :
    Calls Try.prog 36 #[pgV s, .int .i64 0, .int .u64 (k : Int)] w (DescS w [⟨0, [], 0, 0⟩]) := by
  unfold pgV
  go_enter Try.func36, Try.ntmps36
  go_wp2_with fail
  go_ret2
  refine ⟨_, rfl, ⟨[.int .i64 0, .slice none 0 0, .int .i64 0, .int .i64 0], ⟨rfl, .inr ⟨w.heap.size, 1, #[.int .i64 0, .slice none 0 0, .int .i64 0, .int .i64 0], rfl, Nat.le_refl _, heap_alloc_new _ _, Nat.le_refl _, by decide, rfl, rfl⟩⟩, ⟨none, 0, [], rfl, IsPs.none _ _, (fun p e => by cases e), ⟨Nat.le_refl _, Nat.zero_le _, (fun _ => rfl), fun p e => by cases e⟩, rfl⟩⟩, (KeptIn.refl _ w).alloc (fun _ h => h) _⟩

theorem WayC.weaken {W : World} {B0 B1 : Nat} (hb : B0 ≤ B1) : ∀ {ws : List Stp} {xs : List Value}, WayC W B1 xs ws → WayC W B0 xs ws := by
  intro ws
  induction ws with
  | nil => intro xs h; exact h
  | cons t r ih =>
    intro xs h
    obtain ⟨a', cap', xs', rfl, k1, k2, k4, k3⟩ := h
    exact ⟨a', cap', xs', rfl, k1, fun p e => ⟨Nat.le_trans hb (k2 p e).1, (k2 p e).2⟩, k4, ih k3⟩
theorem fit_good {root : Bool} {lv : Int} {lo hi L : Nat} {ps : Pairs} (h : FitOk root lv lo hi L ps) : goodN (L : Int) ps = true ∧ 0 < ps.length := by
  cases root with
  | true => exact ⟨h.1, h.2.1⟩
  | false => exact ⟨h.1, h.2.1⟩
theorem good_rises {L : Int} {ps : Pairs} (h : goodN L ps = true) : rises ps = true := by
  unfold goodN at h
  simp only [Bool.and_eq_true] at h
  exact h.1.2
theorem good_vals {L : Int} {ps : Pairs} (h : goodN L ps = true) (h0 : ¬ L = 0) : ∀ i, i < ps.length → 1 ≤ valAt ps i ∧ valAt ps i ≤ 511 := by
  unfold goodN at h
  simp only [Bool.and_eq_true, Bool.or_eq_true, decide_eq_true_eq] at h
  exact (pagesOk_iff ps).1 (h.2.resolve_left h0)

/-- Between two rounds: what is done of the way, the lead to the rest. -/
def DsI (w : World) (N : List Nd) (k B : Nat) (full : List Stp) (v : Value) (W : World) : Prop :=
  ∃ done rest root lv lo hi p xs, full = done ++ rest ∧ WayG N k rest root lv lo hi p ∧ BoxD B p root lv lo hi W ∧ W.ownsRow w.heap.size 109 4 v done.length xs ∧ WayC W (B + 1) xs done ∧ KeptIn (· < w.heap.size) w W ∧ hi < 18446744073709551616

theorem way_pos {N : List Nd} {k : Nat} {ws : List Stp} {root : Bool} {lv : Int} {lo hi p : Nat} (h : WayG N k ws root lv lo hi p) : 0 < p := by
  have : ∃ nd, nodeOf N p = some nd := by
    cases ws with
    | nil => exact h.elim
    | cons s r =>
      cases r with
      | nil => exact ⟨_, h.1⟩
      | cons t r => exact ⟨_, h.1⟩
  obtain ⟨nd, e⟩ := this
  unfold nodeOf at e
  split at e
  · cases e
  · omega

theorem slLen_row {W : World} {B n c : Nat} {T : TypeId} {v : Value} {xs : List Value} (h : W.ownsRow B T c v n xs) : slLen v = n := by
  rcases h.2 with ⟨rfl, rfl⟩ | ⟨g1, cap1, cur, rfl, _⟩ <;> rfl
theorem uptoK_le (ps : Pairs) (k : Nat) : uptoK ps k ≤ ps.length := List.countP_le_length
theorem kidOf_lt (ps : Pairs) (k : Nat) (h : 0 < ps.length) : kidOf ps k < ps.length := by
  have := uptoK_le ps k
  unfold kidOf; omega
theorem highOf_lt (ps : Pairs) (i hi : Nat) (hf : Fits ps) (h : hi < 18446744073709551616) : highOf ps i hi < 18446744073709551616 := by
  unfold highOf
  split
  · rename_i hl
    have := (hf.at hl).1
    omega
  · exact h
theorem ds_meas (nn dn : Nat) (h : dn < nn) : nn - (dn + 1) < nn - dn := by omega
/-- A lead's box, stored to: all else stands. -/
theorem leadSet {V : World} {B page : Nat} {lv : Int} {low high : Nat} : KeptIn (fun k => k ≠ B) V (((((V.setCell ⟨B, 0, none⟩ (.int .i64 (page : Int))).setCell ⟨B, 1, none⟩ (.bool false)).setCell ⟨B, 2, none⟩ (.int .i64 lv)).setCell ⟨B, 3, none⟩ (.int .u64 (low : Int))).setCell ⟨B, 4, none⟩ (.int .u64 (high : Int))) :=
  (((((KeptIn.refl _ V).setCell (p := ⟨B, 0, none⟩) (by simp) _).setCell (p := ⟨B, 1, none⟩) (by simp) _).setCell (p := ⟨B, 2, none⟩) (by simp) _).setCell (p := ⟨B, 3, none⟩) (by simp) _).setCell (p := ⟨B, 4, none⟩) (by simp) _

/-- One step more. -/
theorem way_more {W V w8 : World} {B0 B1 n g cg : Nat} {v : Value} {ys xs : List Value} {done : List Stp} {st : Stp} (hwc : WayC W B0 xs done) (hk : KeptIn (· < W.heap.size) W V) (hr : V.ownsRow B1 109 4 v n ys) (hg : V.grownBy w8 v.ownBlock)
    (hps : IsPs V (some ⟨g, 0, none⟩) st.ps) (hty : TyC V g st.ps.length cg) (hge : B0 ≤ g) : WayC w8 B0 (xs ++ [.int .i64 (st.lv : Int), .slice (some ⟨g, 0, none⟩) st.ps.length cg, .int .i64 (st.fr : Int), .int .i64 (st.to : Int)]) (done ++ [st]) :=
  ((hwc.old hk).snoc (s := st) (a := some ⟨g, 0, none⟩) (cap := cg) hps (fun p e => by cases e; exact ⟨hge, hty.1⟩) (cap_some hty.2.1 hty.2.2)).grown (KeptIn.refl _ V) hr hg

set_option maxHeartbeats 2000000 in
set_option maxRecDepth 100000 in
theorem trDescend {w : World} {s room : Nat} {N : List Nd} {D : Nat → Prop} (h : IsSh w s room N D) (k : Nat) (hk : k < 18446744073709551616) (ws : List Stp) (p : Nat) (hw : WayG N k ws true 0 0 18446744073709551615 p) (hlen : ws.length ≤ 1000) :
    Calls Try.prog 36 #[pgV s, .int .i64 (p : Int), .int .u64 (k : Int)] w (DescS w ws) := by
  have hp := way_pos hw
  have p0 : ((p : Int) == 0) = false := by rw [beq_eq_false_iff_ne]; omega
  have p1 : ¬ ((p : Int) = 0) := by omega
  have HS := Lib.hid h
  have HW := Lib.hid hw
  unfold pgV
  clear hw h hp
  go_enter Try.func36, Try.ntmps36
  go_wp2_with (go_at_call 46; refine (trToRoot p _).mono ?_)
  rintro e V ⟨rfl, k1⟩
  have HK1 := Lib.hid k1
  clear k1
  unfold leadV
  obtain ⟨W1, hW1⟩ : ∃ W1, V.alloc (.cells #[.int .i64 (p : Int), .bool true, .int .i64 0, .int .u64 0, .int .u64 18446744073709551615] 111) = W1 := ⟨_, rfl⟩
  have hb1 : BoxD V.heap.size p true 0 0 18446744073709551615 W1 := by rw [← hW1]; exact BoxD.new V p true 0 0 18446744073709551615
  have hkV1 : KeptIn (· < w.heap.size) w W1 := by rw [← hW1]; exact HK1.out.go ((KeptIn.refl _ V).alloc (fun _ h => h) _)
  obtain ⟨B, hB⟩ : ∃ B, V.heap.size = B := ⟨_, rfl⟩
  rw [hB] at hb1
  have HBB : Hid (w.heap.size ≤ B) := Lib.hid (by rw [← hB]; exact HK1.out.size)
  have HI0 : Hid (DsI w N k B ws (.slice none 0 0) W1) := Lib.hid ⟨[], ws, true, 0, 0, 18446744073709551615, p, [], rfl, HW.out, hb1, ⟨rfl, .inl ⟨rfl, rfl⟩⟩, rfl, hkV1, by decide⟩
  clear hb1 hkV1 HW
  go_wp2_with fail
  obtain ⟨ii, hii, hz0, hz1, hz2⟩ := info_parts infoStep
  obtain ⟨nn, hnn⟩ : ∃ nn, ws.length = nn := ⟨_, rfl⟩
  have HNN := Lib.hid hnn
  clear hnn HK1 hW1 hB p0 p1
  go_loopw [8] (fun v wr => ∃ (W : World) (v0 : Value), W = wr ∧ v0 = v ∧ Hid (DsI w N k B ws v0 W)) (fun v _ => nn - slLen v)
  case atStart => exact ⟨_, _, rfl, rfl, HI0⟩
  case round =>
    obtain ⟨W, v0, rfl, rfl, HJ⟩ := hrel
    clear HI0
    obtain ⟨done, rest, root, lv, lo, hi, q, xs, hfull, hway, hbd, hrow, hwc, hkw, hhi⟩ := HJ.out
    cases rest with
    | nil => exact hway.elim
    | cons st r =>
      have hnode : ∃ L : Nat, nodeOf N q = some (L, st.ps) ∧ FitOk root lv lo hi L st.ps ∧ L = st.lv := by
        cases r with
        | nil => exact ⟨0, hway.1, hway.2.2.1, hway.2.1.symm⟩
        | cons t r => exact ⟨st.lv, hway.1, hway.2.2.1, rfl⟩
      obtain ⟨L, hnd, hfit, hL⟩ := hnode
      obtain ⟨ix, hix, hqi, hni⟩ := nodeOf_at hnd
      have CL := trLeadRead (HS.out.old hkw) ix hix root lv lo hi (by rw [hni]; exact hfit)
      rw [hqi, hni] at CL
      subst hL
      have HCL := Lib.hid CL
      have d0 := hbd.c0
      have d1 := hbd.c1
      have d2 := hbd.c2
      have d3 := hbd.c3
      have d4 := hbd.c4
      have HD := Lib.hid (And.intro hfull (And.intro hway (And.intro hbd (And.intro hrow (And.intro hwc (And.intro hkw (And.intro hhi hfit)))))))
      clear hfull hway hbd hrow hwc hkw hhi hfit CL hnd hix hqi hni HJ
      unfold leadV pgV at HCL
      go_wp2_with (go_at_call 47; refine HCL.out.mono ?_)
      rintro e V2 ⟨g, cg, rfl, hps, hg, hk2, hty⟩
      unfold leafV
      obtain ⟨m, hm⟩ : ∃ m, st.ps.length = m := ⟨_, rfl⟩
      rw [hm]
      obtain ⟨U, hU⟩ : ∃ U, V2.alloc (.cells #[.int .i64 (st.lv : Int), .slice (some ⟨g, 0, none⟩) m cg] 27) = U := ⟨_, rfl⟩
      obtain ⟨y, hy⟩ : ∃ y, V2.heap.size = y := ⟨_, rfl⟩
      have hkU : KeptIn (· < V2.heap.size) V2 U := by rw [← hU]; exact (KeptIn.refl _ V2).alloc (fun _ h => h) _
      have hby : BoxL y (st.lv : Int) (some ⟨g, 0, none⟩) m cg U := by rw [← hU, ← hy]; exact BoxL.new V2 _ _ _ _
      have hkWU : KeptIn (· < W.heap.size) W U := hk2.go hkU
      have hpsU := hps.old hkU
      have q0 := hby.c0
      have q1 := hby.c1
      have HM := Lib.hid hm
      have HTY := Lib.hid (hty.old hkU)
      have HU := Lib.hid (And.intro hby (And.intro hkWU (And.intro hpsU hg)))
      clear d0 d1 d2 d3 d4 hps hg hk2 hkU hby hkWU hpsU HCL hm hty
      cases r with
      | nil =>
        have hl0 : st.lv = 0 := HD.out.2.1.2.1
        have z0 : ((st.lv : Int) == 0) = true := by rw [hl0]; rfl
        have CI := trInLeaf (st.lv : Int) (some ⟨g, 0, none⟩) cg st.ps k U HU.out.2.2.1 (good_rises (fit_good HD.out.2.2.2.2.2.2.2).1) hk (Nat.le_trans (good_parts (fit_good HD.out.2.2.2.2.2.2.2).1).2.2 (by decide))
        rw [HM.out] at CI
        unfold leafV stepV at CI
        have HCI := Lib.hid CI
        generalize hLV : (st.lv : Int) = LV at *
        have HLV := Lib.hid hLV
        clear CI hl0 hLV
        go_wp2_with (go_at_call 48; refine HCI.out.mono ?_)
        rintro e V3 ⟨rfl, hk3⟩
        obtain ⟨dn, hdn⟩ : ∃ dn, done.length = dn := ⟨_, rfl⟩
        have hdl : dn + 1 ≤ 1000 := by
          have h1 : ws.length = done.length + 1 := by rw [HD.out.1]; simp
          rw [← hdn, ← h1]; exact hlen
        have hk3W : KeptIn (· < W.heap.size) W V3 := HU.out.2.1.go hk3
        have hrow3 : V3.ownsRow w.heap.size 109 4 v0 dn xs := by
          rw [← hdn]
          exact rowS_block HD.out.2.2.2.1 fun g' e => hk3W.block g' (rowS_lt HD.out.2.2.2.1 g' e).2
        have HROW := Lib.hid hrow3
        have HB3 := Lib.hid (And.intro hdn (And.intro hdl (And.intro hk3W hk3)))
        have hb3 : w.heap.size ≤ V3.heap.size := Nat.le_trans HD.out.2.2.2.2.2.1.size hk3W.size
        have hmx : dn + 1 ≤ maxLen := by unfold maxLen; omega
        have hby3 : (dn + 1) * 48 ≤ 140737488355328 := by omega
        generalize hbk : (belowK st.ps k : Int) = bk
        generalize htk : (toOf st.ps k : Int) = tk
        have HBT := Lib.hid (And.intro hbk htk)
        clear hdn hk3W hk3 hrow3 HCI q0 q1 hbk htk hdl
        go_wp2_with (at_builtin; refine wpList_append_own _ rfl _ _ 94 rfl w.heap.size 109 ii _ 4 48 Try.underlying94 hii hz0 hz1 hz2 rfl (by decide) _ _ _ rfl (HROW.out.alloc _) ⟨V3.heap.size, 0, none⟩ 1 1 [.int .i64 LV, .slice (some ⟨g, 0, none⟩) m cg, .int .i64 bk, .int .i64 tk] rfl rfl (World.news_of_block (cs := #[.int .i64 LV, .slice (some ⟨g, 0, none⟩) m cg, .int .i64 bk, .int .i64 tk]) (t := 109) (fr := (0, 0)) (heap_alloc_new V3 _)) (by simp [Value.oneCell']) hmx hby3 (by rw [World.size_alloc]; exact Nat.le_succ_of_le hb3) ?_)
        intro v' w8 hown' hgrow _
        have hka : KeptIn (· < V3.heap.size) V3 (V3.alloc (.cells #[.int .i64 LV, .slice (some ⟨g, 0, none⟩) m cg, .int .i64 bk, .int .i64 tk] 109)) := (KeptIn.refl _ V3).alloc (fun _ h => h) _
        have hkB : KeptIn (· < U.heap.size) U (V3.alloc (.cells #[.int .i64 LV, .slice (some ⟨g, 0, none⟩) m cg, .int .i64 bk, .int .i64 tk] 109)) := HB3.out.2.2.2.go hka
        have hra : (V3.alloc (.cells #[.int .i64 LV, .slice (some ⟨g, 0, none⟩) m cg, .int .i64 bk, .int .i64 tk] 109)).ownsRow w.heap.size 109 4 v0 dn xs := HROW.out.alloc _
        have hfr : st.fr = belowK st.ps k := HD.out.2.1.2.2.2.1
        have hto : st.to = toOf st.ps k := HD.out.2.1.2.2.2.2
        have hw8 := way_more (cg := cg) (st := st) HD.out.2.2.2.2.1 (HB3.out.2.2.1.go hka) hra hgrow (HU.out.2.2.1.old hkB) (HTY.out.old hkB) (Nat.lt_of_lt_of_le HD.out.2.2.1.lt HU.out.2.2.2)
        rw [HLV.out, HM.out, hfr, hto, HBT.out.1, HBT.out.2] at hw8
        have hkF : KeptIn (· < w.heap.size) w w8 := (HD.out.2.2.2.2.2.1.go (HB3.out.2.2.1.go hka)).grown (fun _ h => h) hgrow fun g' e => Nat.not_lt.2 (rowS_lt hra g' e).1
        have hws : ws = done ++ [st] := HD.out.1
        have hdn := HB3.out.1
        have HF := Lib.hid (And.intro hw8 (And.intro hkF (And.intro hws hdn)))
        have HO := Lib.hid hown'
        clear hra hka hkB hfr hto hw8 hkF hws hdn hgrow hown' HROW HB3 HU HD HTY
        go_wp2_with fail
        go_ret2
        refine ⟨v', rfl, ⟨xs ++ [.int .i64 LV, .slice (some ⟨g, 0, none⟩) m cg, .int .i64 bk, .int .i64 tk], ?_, ?_⟩, HF.out.2.1⟩
        · rw [HF.out.2.2.1, List.length_append, HF.out.2.2.2]; exact HO.out
        · rw [HF.out.2.2.1]; exact HF.out.1.weaken (Nat.le_succ_of_le HBB.out)
      | cons t r =>
        have hl0 : 0 < st.lv := HD.out.2.1.2.1
        have hgood := (fit_good HD.out.2.2.2.2.2.2.2).1
        have hpos := (fit_good HD.out.2.2.2.2.2.2.2).2
        obtain ⟨_, hlv7, hl15⟩ := good_parts hgood
        have z0 : ((st.lv : Int) == 0) = false := by rw [beq_eq_false_iff_ne]; omega
        have hkid := kidOf_lt st.ps k hpos
        have hval := good_vals hgood (by omega) _ hkid
        have CC := trChildFor (st.lv : Int) (some ⟨g, 0, none⟩) cg st.ps k U HU.out.2.2.1 (good_rises hgood)
        obtain ⟨ki, hki⟩ : ∃ ki, kidOf st.ps k = ki := ⟨_, rfl⟩
        obtain ⟨kj, hkj⟩ : ∃ kj, ki + 1 = kj := ⟨_, rfl⟩
        rw [HM.out, hki] at CC
        rw [hki] at hkid hval
        obtain ⟨n1, n2⟩ := il_nums ki kj hkj (Nat.le_trans (Nat.le_of_lt hkid) (Nat.le_trans hl15 (by decide)))
        have CT := Lib.hid fun (X : World) (hX : IsPs X (some ⟨g, 0, none⟩) st.ps) => trToChild st.lv (some ⟨g, 0, none⟩) cg st.ps ki hi X hX (good_rises hgood) hkid (Nat.le_trans hl15 (by decide)) ⟨hl0, by omega⟩ hval.2
        have HG := Lib.hid (And.intro hkid (And.intro hki hkj))
        unfold leafV at CC CT
        rw [HM.out] at CT
        have HCC := Lib.hid CC
        generalize hLV : (st.lv : Int) = LV at *
        have HLV := Lib.hid hLV
        clear CC hl0 hLV hgood hpos hlv7 hl15 hkid hval hki hkj
        go_wp2_with (go_at_call 49; refine HCC.out.mono ?_)
        rintro e V3 ⟨rfl, hk3⟩
        have hby3 := HU.out.1.kept hk3 HU.out.1.lt
        have q0 := hby3.c0
        have q1 := hby3.c1
        obtain ⟨dn, hdn⟩ : ∃ dn, done.length = dn := ⟨_, rfl⟩
        have hdl : dn + 1 < ws.length := by
          have h1 : ws.length = done.length + (r.length + 2) := by rw [HD.out.1]; simp
          omega
        have hk3W : KeptIn (· < W.heap.size) W V3 := HU.out.2.1.go hk3
        have hrow3 : V3.ownsRow w.heap.size 109 4 v0 dn xs := by
          rw [← hdn]
          exact rowS_block HD.out.2.2.2.1 fun g' e => hk3W.block g' (rowS_lt HD.out.2.2.2.1 g' e).2
        have HROW := Lib.hid hrow3
        have HB3 := Lib.hid (And.intro hdn (And.intro hdl (And.intro hk3W (And.intro hk3 hby3))))
        have hb3 : w.heap.size ≤ V3.heap.size := Nat.le_trans HD.out.2.2.2.2.2.1.size hk3W.size
        have hmx : dn + 1 ≤ maxLen := by unfold maxLen; omega
        have hb48 : (dn + 1) * 48 ≤ 140737488355328 := by omega
        clear hdn hk3W hk3 hrow3 HCC hdl hby3
        go_wp2_with (at_builtin; refine wpList_append_own _ rfl _ _ 94 rfl w.heap.size 109 ii _ 4 48 Try.underlying94 hii hz0 hz1 hz2 rfl (by decide) _ _ _ rfl (HROW.out.alloc _) ⟨V3.heap.size, 0, none⟩ 1 1 [.int .i64 LV, .slice (some ⟨g, 0, none⟩) m cg, .int .i64 (ki : Int), .int .i64 (kj : Int)] rfl rfl (World.news_of_block (cs := #[.int .i64 LV, .slice (some ⟨g, 0, none⟩) m cg, .int .i64 (ki : Int), .int .i64 (kj : Int)]) (t := 109) (fr := (0, 0)) (heap_alloc_new V3 _)) (by simp [Value.oneCell']) hmx hb48 (by rw [World.size_alloc]; exact Nat.le_succ_of_le hb3) ?_)
        intro v' w8 hown' hgrow _
        have hka : KeptIn (· < V3.heap.size) V3 (V3.alloc (.cells #[.int .i64 LV, .slice (some ⟨g, 0, none⟩) m cg, .int .i64 (ki : Int), .int .i64 (kj : Int)] 109)) := (KeptIn.refl _ V3).alloc (fun _ h => h) _
        have hkB : KeptIn (· < U.heap.size) U (V3.alloc (.cells #[.int .i64 LV, .slice (some ⟨g, 0, none⟩) m cg, .int .i64 (ki : Int), .int .i64 (kj : Int)] 109)) := HB3.out.2.2.2.1.go hka
        have hra : (V3.alloc (.cells #[.int .i64 LV, .slice (some ⟨g, 0, none⟩) m cg, .int .i64 (ki : Int), .int .i64 (kj : Int)] 109)).ownsRow w.heap.size 109 4 v0 dn xs := HROW.out.alloc _
        have hfr : st.fr = ki := HD.out.2.1.2.2.2.1.trans HG.out.2.1
        have hto : st.to = kj := by rw [HD.out.2.1.2.2.2.2.1, hfr]; exact HG.out.2.2
        have hw8 := way_more (cg := cg) (st := st) HD.out.2.2.2.2.1 (HB3.out.2.2.1.go hka) hra hgrow (HU.out.2.2.1.old hkB) (HTY.out.old hkB) (Nat.lt_of_lt_of_le HD.out.2.2.1.lt HU.out.2.2.2)
        rw [HLV.out, HM.out, hfr, hto] at hw8
        have hkF : KeptIn (· < w.heap.size) w w8 := (HD.out.2.2.2.2.2.1.go (HB3.out.2.2.1.go hka)).grown (fun _ h => h) hgrow fun g' e => Nat.not_lt.2 (rowS_lt hra g' e).1
        have hkT : KeptIn (fun k => TyP (V3.alloc (.cells #[.int .i64 LV, .slice (some ⟨g, 0, none⟩) m cg, .int .i64 (ki : Int), .int .i64 (kj : Int)] 109)) k) (V3.alloc (.cells #[.int .i64 LV, .slice (some ⟨g, 0, none⟩) m cg, .int .i64 (ki : Int), .int .i64 (kj : Int)] 109)) w8 := ⟨hgrow.os, hgrow.tape, hgrow.output, hgrow.size, fun k hT => hgrow.block k hT.lt fun e => by
          obtain ⟨cs, fr, hc⟩ := hT
          exact rowS_ne hra hc (by decide) e.symm⟩
        have hps8 : IsPs w8 (some ⟨g, 0, none⟩) st.ps := psAt (HU.out.2.2.1.old hkB) hkT fun p e => by cases e; exact (HTY.out.old hkB).1
        have hbyA := HB3.out.2.2.2.2.kept hka HB3.out.2.2.2.2.lt
        have hby8 : BoxL y LV (some ⟨g, 0, none⟩) m cg w8 := (hgrow.block y hbyA.lt fun e => rowS_ne hra hbyA (by decide) e.symm).trans hbyA
        have hbdA := HD.out.2.2.1.kept (HB3.out.2.2.1.go hka) HD.out.2.2.1.lt
        have hbd8 : BoxD B q root lv lo hi w8 := (hgrow.block B hbdA.lt fun e => rowS_ne hra hbdA (by decide) e.symm).trans hbdA
        have c0 := hby8.c0
        have c1 := hby8.c1
        have c4 := hbd8.c4
        have HCT := Lib.hid (CT.out w8 hps8)
        have HF5 := Lib.hid hps8.fits
        have HF := Lib.hid (And.intro hw8 (And.intro hkF (And.intro hbd8 (And.intro hown' hfr))))
        clear hra hka hkB hfr hto hw8 hkF hkT hps8 hbyA hby8 hbdA hbd8 hown' hgrow HROW CT HU HTY q0 q1
        go_wp2_with (go_at_call 50; refine HCT.out.mono ?_)
        rintro e V4 ⟨rfl, hk4⟩
        obtain ⟨vv, hvv⟩ : ∃ vv, valAt st.ps ki = vv := ⟨_, rfl⟩
        obtain ⟨kk, hkk⟩ : ∃ kk, keyAt st.ps ki = kk := ⟨_, rfl⟩
        obtain ⟨hh, hhh⟩ : ∃ hh, highOf st.ps ki hi = hh := ⟨_, rfl⟩
        rw [hvv, hkk, hhh]
        unfold leadV
        have hbd4 := HF.out.2.2.1.kept hk4 HF.out.2.2.1.lt
        have e0 := hbd4.c0
        have e1 := hbd4.c1
        have e2 := hbd4.c2
        have e3 := hbd4.c3
        have e4 := hbd4.c4
        have f0 := hbd4.f0
        have f1 := hbd4.f1
        have f2 := hbd4.f2
        have f3 := hbd4.f3
        have f4 := hbd4.f4
        have hway : WayG N k (t :: r) false (LV - 1) kk hh vv := by
          have := HD.out.2.1.2.2.2.2.2
          rw [HLV.out, HF.out.2.2.2.2, hkk, hhh, hvv] at this
          exact this
        have hrw := HF.out.2.2.2.1
        have hHI : hh < 18446744073709551616 := by
          rw [← hhh]
          exact highOf_lt _ _ _ HF5.out HD.out.2.2.2.2.2.2.1
        have HJ2 : Hid (DsI w N k B ws v' (((((V4.setCell ⟨B, 0, none⟩ (.int .i64 (vv : Int))).setCell ⟨B, 1, none⟩ (.bool false)).setCell ⟨B, 2, none⟩ (.int .i64 (LV - 1))).setCell ⟨B, 3, none⟩ (.int .u64 (kk : Int))).setCell ⟨B, 4, none⟩ (.int .u64 (hh : Int)))) := Lib.hid (by
          refine ⟨done ++ [st], t :: r, false, LV - 1, kk, hh, vv, _, by rw [HD.out.1]; simp, hway, hbd4.set, ?_, ((HF.out.1.old hk4).kept leadSet fun k h1 _ => Nat.ne_of_gt h1), ?_, hHI⟩
          · rw [List.length_append, HB3.out.1]
            exact rowS_block hrw fun g' e => (leadSet.block g' fun e5 => rowS_ne hrw HF.out.2.2.1 (by decide) (by rw [← e5]; exact e)).trans (hk4.block g' (rowS_lt hrw g' e).2)
          · exact (HF.out.2.1.go hk4).trans (leadSet.mono fun k h1 e => by rw [e] at h1; exact absurd h1 (Nat.not_lt.2 HBB.out)))
        have hsl := slLen_row hrw
        have hs0 : slLen v0 = dn := by rw [← HB3.out.1]; exact slLen_row HD.out.2.2.2.1
        have hdn : dn < nn := by rw [← HNN.out]; exact Nat.lt_of_succ_lt HB3.out.2.1
        clear hway hrw hHI hbd4 hk4 HF HD HB3 c0 c1 c4 hvv hkk hhh HCT
        go_wp2_with fail
        go_roundw
        case rel => exact ⟨_, _, rfl, rfl, HJ2⟩
        case measure =>
          rw [hsl, hs0]
          exact ds_meas nn dn hdn

end Go.Proofs.Ytdbohcdjamhdjaa
/- Trees: the mathematics of layer 8 without memory. Of no program. -/
set_option linter.unusedVariables false
namespace Go.Proofs.Ytdbohcdjamhdjaa
open Go.RowKit

/-- Pairs rise. -/
def Srt (ps : Pairs) : Prop := ps.Pairwise fun a b => a.1 < b.1
theorem rises_srt (ps : Pairs) : rises ps = true ↔ Srt ps := by
  constructor
  · intro h
    unfold Srt
    rw [List.pairwise_iff_getElem]
    intro i j hi hj hij
    have := rises_lt h hij hj
    rwa [keyAt_get hi, keyAt_get hj] at this
  · intro h
    rw [rises_iff]
    intro i hi
    rw [keyAt_get (by omega), keyAt_get hi]
    exact (List.pairwise_iff_getElem.1 h) i (i + 1) (by omega) hi (by omega)

/-- What a row becomes if these pairs stand at a key. -/
def chg (xs : Pairs) (k : Nat) (qs : Pairs) : Pairs := (qs.filter fun p => decide (p.1 < k)) ++ xs ++ qs.filter fun p => decide (k < p.1)

theorem filter_lt_take {qs : Pairs} (h : Srt qs) (k : Nat) : (qs.filter fun p => decide (p.1 < k)) = qs.take (belowK qs k) := by
  induction qs with
  | nil => rfl
  | cons p r ih =>
    obtain ⟨h1, h2⟩ := List.pairwise_cons.1 h
    unfold belowK at ih ⊢
    rw [List.filter_cons, List.countP_cons]
    by_cases hp : p.1 < k
    · simp [hp, ih h2]
    · have h3 : (r.filter fun p => decide (p.1 < k)) = [] := by
        rw [List.filter_eq_nil_iff]
        intro q hq
        have := h1 q hq
        simp; omega
      have h4 : (r.countP fun p => decide (p.1 < k)) = 0 := by
        rw [List.countP_eq_zero]
        intro q hq
        have := h1 q hq
        simp; omega
      simp [hp, h3, h4]

theorem filter_gt_drop {qs : Pairs} (h : Srt qs) (k : Nat) : (qs.filter fun p => decide (k < p.1)) = qs.drop (toOf qs k) := by
  induction qs with
  | nil => simp [toOf, belowK, hasK]
  | cons p r ih =>
    obtain ⟨h1, h2⟩ := List.pairwise_cons.1 h
    rw [List.filter_cons]
    by_cases hp : p.1 < k
    · have e : toOf (p :: r) k = toOf r k + 1 := by
        have a : hasK (p :: r) k = hasK r k := by
          have : (p.1 == k) = false := by rw [beq_eq_false_iff_ne]; omega
          simp [hasK, this]
        have b : belowK (p :: r) k = belowK r k + 1 := by simp [belowK, hp]
        unfold toOf
        rw [a, b]
        split <;> rfl
      rw [e, if_neg (by simp; omega), ih h2]; rfl
    · have h4 : belowK (p :: r) k = 0 := by
        unfold belowK
        rw [List.countP_eq_zero]
        intro q hq
        rcases List.mem_cons.1 hq with rfl | hq
        · simpa using hp
        · have := h1 q hq
          simp; omega
      have h5 : (r.filter fun p => decide (k < p.1)) = r := by
        rw [List.filter_eq_self]
        intro q hq
        have := h1 q hq
        simp; omega
      unfold toOf
      rw [h4, h5]
      by_cases hk : p.1 = k
      · have : hasK (p :: r) k = true := by simp [hasK, hk]
        simp [this, hk]
      · have : hasK (p :: r) k = false := by
          have a : (p.1 == k) = false := by rw [beq_eq_false_iff_ne]; exact hk
          have b : hasK r k = false := by
            unfold hasK
            rw [List.any_eq_false]
            intro q hq
            have := h1 q hq
            simp; omega
          unfold hasK at b ⊢
          simp [a, b]
        simp [this]
        omega

theorem chg_leaf {qs : Pairs} (h : Srt qs) (xs : Pairs) (k : Nat) : qs.take (belowK qs k) ++ xs ++ qs.drop (toOf qs k) = chg xs k qs := by
  unfold chg
  rw [filter_lt_take h, filter_gt_drop h]

theorem chg_mid {a b c xs : Pairs} {k : Nat} (ha : ∀ p ∈ a, p.1 < k) (hc : ∀ p ∈ c, k < p.1) : chg xs k (a ++ b ++ c) = a ++ chg xs k b ++ c := by
  have a1 : (a.filter fun p => decide (p.1 < k)) = a := by rw [List.filter_eq_self]; intro p hp; simpa using ha p hp
  have a2 : (a.filter fun p => decide (k < p.1)) = [] := by rw [List.filter_eq_nil_iff]; intro p hp; have := ha p hp; simp; omega
  have c1 : (c.filter fun p => decide (k < p.1)) = c := by rw [List.filter_eq_self]; intro p hp; simpa using hc p hp
  have c2 : (c.filter fun p => decide (p.1 < k)) = [] := by rw [List.filter_eq_nil_iff]; intro p hp; have := hc p hp; simp; omega
  unfold chg
  simp only [List.filter_append, a1, a2, c1, c2, List.nil_append, List.append_nil, List.append_assoc]

theorem srt_chg {qs xs : Pairs} {k : Nat} (h : Srt qs) (hx : Srt xs) (hk : ∀ p ∈ xs, p.1 = k) : Srt (chg xs k qs) := by
  unfold chg Srt
  rw [List.pairwise_append, List.pairwise_append]
  refine ⟨⟨h.filter _, hx, ?_⟩, h.filter _, ?_⟩
  · intro p hp q hq
    have := (List.mem_filter.1 hp).2
    rw [hk q hq]
    simpa using this
  · intro p hp q hq
    have h2 := (List.mem_filter.1 hq).2
    rcases List.mem_append.1 hp with hp | hp
    · have := (List.mem_filter.1 hp).2
      simp at this h2
      omega
    · rw [hk p hp]
      simpa using h2

theorem mem_chg {qs xs : Pairs} {k : Nat} {p : Nat × Nat} (h : p ∈ chg xs k qs) : p ∈ qs ∨ p ∈ xs := by
  unfold chg at h
  simp only [List.mem_append, List.mem_filter] at h
  rcases h with (h | h) | h
  · exact .inl h.1
  · exact .inr h
  · exact .inl h.1

/-- Pairs that lead to subtrees: what these have, in order. -/
def Kids (S : Nat → Pairs → List Nat → Prop) : Pairs → Pairs → List Nat → Prop
  | [], qs, pg => qs = [] ∧ pg = []
  | kv :: r, qs, pg => ∃ q1 q2 g1 g2, qs = q1 ++ q2 ∧ pg = g1 ++ g2 ∧ S kv.2 q1 g1 ∧ 0 < q1.length ∧ keyAt q1 0 = kv.1 ∧ Kids S r q2 g2

/-- A sound tree of a level: its pairs, its pages. -/
def Snd (N : List Nd) : Nat → Nat → Pairs → List Nat → Prop
  | 0, p, qs, pg => nodeOf N p = some (0, qs) ∧ 0 < qs.length ∧ qs.length ≤ 15 ∧ pg = [p]
  | l + 1, p, qs, pg => ∃ ps g, nodeOf N p = some (l + 1, ps) ∧ 0 < ps.length ∧ ps.length ≤ 15 ∧ Kids (Snd N l) ps qs g ∧ pg = p :: g

/-- What a node's pairs lead to. -/
def Body (N : List Nd) : Nat → Pairs → Pairs → List Nat → Prop
  | 0, ps, qs, pg => ps = qs ∧ pg = []
  | l + 1, ps, qs, pg => Kids (Snd N l) ps qs pg

theorem snd_iff {N : List Nd} {l p : Nat} {qs : Pairs} {pg : List Nat} : Snd N l p qs pg ↔ ∃ ps g, nodeOf N p = some (l, ps) ∧ 0 < ps.length ∧ ps.length ≤ 15 ∧ Body N l ps qs g ∧ pg = p :: g := by
  cases l with
  | zero =>
    constructor
    · rintro ⟨h1, h2, h3, rfl⟩
      exact ⟨qs, [], h1, h2, h3, ⟨rfl, rfl⟩, rfl⟩
    · rintro ⟨ps, g, h1, h2, h3, ⟨rfl, rfl⟩, rfl⟩
      exact ⟨h1, h2, h3, rfl⟩
  | succ l => exact Iff.rfl

theorem Kids.mono {S T : Nat → Pairs → List Nat → Prop} (h : ∀ v q g, S v q g → T v q g) : ∀ {ps qs : Pairs} {pg : List Nat}, Kids S ps qs pg → Kids T ps qs pg := by
  intro ps
  induction ps with
  | nil => intro qs pg h; exact h
  | cons kv r ih =>
    rintro qs pg ⟨q1, q2, g1, g2, e1, e2, h1, h2, h3, h4⟩
    exact ⟨q1, q2, g1, g2, e1, e2, h _ _ _ h1, h2, h3, ih h4⟩

theorem Kids.append {S : Nat → Pairs → List Nat → Prop} : ∀ {a b qa qb : Pairs} {ga gb : List Nat}, Kids S a qa ga → Kids S b qb gb → Kids S (a ++ b) (qa ++ qb) (ga ++ gb) := by
  intro a
  induction a with
  | nil => rintro b qa qb ga gb ⟨rfl, rfl⟩ h; exact h
  | cons kv r ih =>
    rintro b qa qb ga gb ⟨q1, q2, g1, g2, rfl, rfl, h1, h2, h3, h4⟩ h
    exact ⟨q1, q2 ++ qb, g1, g2 ++ gb, by simp, by simp, h1, h2, h3, ih h4 h⟩

theorem Kids.split {S : Nat → Pairs → List Nat → Prop} : ∀ {a b qs : Pairs} {pg : List Nat}, Kids S (a ++ b) qs pg → ∃ qa qb ga gb, qs = qa ++ qb ∧ pg = ga ++ gb ∧ Kids S a qa ga ∧ Kids S b qb gb := by
  intro a
  induction a with
  | nil => intro b qs pg h; exact ⟨[], qs, [], pg, rfl, rfl, ⟨rfl, rfl⟩, h⟩
  | cons kv r ih =>
    rintro b qs pg ⟨q1, q2, g1, g2, rfl, rfl, h1, h2, h3, h4⟩
    obtain ⟨qa, qb, ga, gb, rfl, rfl, k1, k2⟩ := ih h4
    exact ⟨q1 ++ qa, qb, g1 ++ ga, gb, by simp, by simp, ⟨q1, qa, g1, ga, rfl, rfl, h1, h2, h3, k1⟩, k2⟩

theorem Kids.pos {S : Nat → Pairs → List Nat → Prop} {ps qs : Pairs} {pg : List Nat} (h : Kids S ps qs pg) (h0 : 0 < ps.length) : 0 < qs.length ∧ keyAt qs 0 = keyAt ps 0 := by
  cases ps with
  | nil => cases h0
  | cons kv r =>
    obtain ⟨q1, q2, g1, g2, rfl, rfl, h1, h2, h3, h4⟩ := h
    refine ⟨by simp; omega, ?_⟩
    cases q1 with
    | nil => cases h2
    | cons p t => exact h3

theorem Kids.nil {S : Nat → Pairs → List Nat → Prop} {ps qs : Pairs} {pg : List Nat} (h : Kids S ps qs pg) (h0 : qs = []) : ps = [] := by
  cases ps with
  | nil => rfl
  | cons kv r =>
    have := (h.pos (by simp)).1
    rw [h0] at this
    cases this

/-- The keys of a node are among those of its pairs. -/
theorem Kids.key {S : Nat → Pairs → List Nat → Prop} : ∀ {ps qs : Pairs} {pg : List Nat}, Kids S ps qs pg → ∀ p ∈ ps, ∃ q ∈ qs, q.1 = p.1 := by
  intro ps
  induction ps with
  | nil => intro qs pg h p hp; cases hp
  | cons kv r ih =>
    rintro qs pg ⟨q1, q2, g1, g2, rfl, rfl, h1, h2, h3, h4⟩ p hp
    rcases List.mem_cons.1 hp with rfl | hp
    · cases q1 with
      | nil => cases h2
      | cons x t => exact ⟨x, by simp, h3⟩
    · obtain ⟨q, hq, e⟩ := ih h4 p hp
      exact ⟨q, List.mem_append_right _ hq, e⟩

theorem Kids.srt {S : Nat → Pairs → List Nat → Prop} : ∀ {ps qs : Pairs} {pg : List Nat}, Kids S ps qs pg → Srt qs → Srt ps := by
  intro ps
  induction ps with
  | nil => intro qs pg h hs; exact .nil
  | cons kv r ih =>
    rintro qs pg ⟨q1, q2, g1, g2, rfl, rfl, h1, h2, h3, h4⟩ hs
    obtain ⟨s1, s2, s3⟩ := List.pairwise_append.1 hs
    refine List.pairwise_cons.2 ⟨fun p hp => ?_, ih h4 s2⟩
    obtain ⟨q, hq, e⟩ := h4.key p hp
    cases q1 with
    | nil => cases h2
    | cons x t =>
      rw [← e, ← h3]
      exact s3 x (by simp) q hq

theorem body_srt {N : List Nd} {l : Nat} {ps qs : Pairs} {pg : List Nat} (h : Body N l ps qs pg) (hs : Srt qs) : Srt ps := by
  cases l with
  | zero => obtain ⟨rfl, _⟩ := h; exact hs
  | succ l => exact Kids.srt h hs
theorem body_pos {N : List Nd} {l : Nat} {ps qs : Pairs} {pg : List Nat} (h : Body N l ps qs pg) (h0 : 0 < ps.length) : 0 < qs.length ∧ keyAt qs 0 = keyAt ps 0 := by
  cases l with
  | zero => obtain ⟨rfl, _⟩ := h; exact ⟨h0, rfl⟩
  | succ l => exact Kids.pos h h0
theorem body_key {N : List Nd} {l : Nat} {ps qs : Pairs} {pg : List Nat} (h : Body N l ps qs pg) : ∀ p ∈ ps, ∃ q ∈ qs, q.1 = p.1 := by
  cases l with
  | zero => obtain ⟨rfl, _⟩ := h; exact fun p hp => ⟨p, hp, rfl⟩
  | succ l => exact Kids.key h

theorem nodeOf_app {N M : List Nd} {p : Nat} {nd : Nd} (h : nodeOf N p = some nd) : nodeOf (N ++ M) p = some nd := by
  unfold nodeOf at h ⊢
  split at h
  · cases h
  · rename_i h0
    rw [if_neg h0, List.getElem?_append_left (List.getElem?_eq_some_iff.1 h).1]
    exact h
theorem nodeOf_le {N : List Nd} {p : Nat} {nd : Nd} (h : nodeOf N p = some nd) : 1 ≤ p ∧ p ≤ N.length := by
  obtain ⟨i, hi, e, _⟩ := nodeOf_at h
  omega

theorem snd_app {N M : List Nd} : ∀ {l p : Nat} {qs : Pairs} {pg : List Nat}, Snd N l p qs pg → Snd (N ++ M) l p qs pg := by
  intro l
  induction l with
  | zero => rintro p qs pg ⟨h1, h2⟩; exact ⟨nodeOf_app h1, h2⟩
  | succ l ih =>
    rintro p qs pg ⟨ps, g, h1, h2, h3, h4, h5⟩
    exact ⟨ps, g, nodeOf_app h1, h2, h3, h4.mono fun _ _ _ => ih, h5⟩
theorem body_app {N M : List Nd} {l : Nat} {ps qs : Pairs} {pg : List Nat} (h : Body N l ps qs pg) : Body (N ++ M) l ps qs pg := by
  cases l with
  | zero => exact h
  | succ l => exact Kids.mono (fun _ _ _ => snd_app) h

/-- Pages are there. -/
theorem kids_pages {S : Nat → Pairs → List Nat → Prop} {n : Nat} (hS : ∀ v q g, S v q g → ∀ x ∈ g, 1 ≤ x ∧ x ≤ n) : ∀ {ps qs : Pairs} {pg : List Nat}, Kids S ps qs pg → ∀ x ∈ pg, 1 ≤ x ∧ x ≤ n := by
  intro ps
  induction ps with
  | nil => rintro qs pg ⟨_, rfl⟩ x hx; cases hx
  | cons kv r ih =>
    rintro qs pg ⟨q1, q2, g1, g2, rfl, rfl, h1, h2, h3, h4⟩ x hx
    rcases List.mem_append.1 hx with hx | hx
    · exact hS _ _ _ h1 x hx
    · exact ih h4 x hx
theorem snd_pages {N : List Nd} : ∀ {l p : Nat} {qs : Pairs} {pg : List Nat}, Snd N l p qs pg → ∀ x ∈ pg, 1 ≤ x ∧ x ≤ N.length := by
  intro l
  induction l with
  | zero =>
    rintro p qs pg ⟨h1, _, _, rfl⟩ x hx
    rw [List.mem_singleton.1 hx]
    exact nodeOf_le h1
  | succ l ih =>
    rintro p qs pg ⟨ps, g, h1, h2, h3, h4, rfl⟩ x hx
    rcases List.mem_cons.1 hx with rfl | hx
    · exact nodeOf_le h1
    · exact kids_pages (fun _ _ _ => ih) h4 x hx
theorem body_pages {N : List Nd} {l : Nat} {ps qs : Pairs} {pg : List Nat} (h : Body N l ps qs pg) : ∀ x ∈ pg, 1 ≤ x ∧ x ≤ N.length := by
  cases l with
  | zero => obtain ⟨_, rfl⟩ := h; intro x hx; cases hx
  | succ l => exact kids_pages (fun _ _ _ => snd_pages) h

/-- A kid's page is a page. -/
theorem snd_page {N : List Nd} {l p : Nat} {qs : Pairs} {pg : List Nat} (h : Snd N l p qs pg) : 1 ≤ p ∧ p ≤ N.length := by
  obtain ⟨ps, g, h1, _⟩ := snd_iff.1 h
  exact nodeOf_le h1

end Go.Proofs.Ytdbohcdjamhdjaa
/- Trees: ways, nodes that are added, what climbs. Of no program. -/
set_option linter.unusedVariables false
namespace Go.Proofs.Ytdbohcdjamhdjaa
open Go.RowKit

theorem body_split {N : List Nd} {l : Nat} {a b qs : Pairs} {pg : List Nat} (h : Body N l (a ++ b) qs pg) : ∃ qa qb ga gb, qs = qa ++ qb ∧ pg = ga ++ gb ∧ Body N l a qa ga ∧ Body N l b qb gb := by
  cases l with
  | zero => obtain ⟨rfl, rfl⟩ := h; exact ⟨a, b, [], [], rfl, rfl, ⟨rfl, rfl⟩, ⟨rfl, rfl⟩⟩
  | succ l => exact Kids.split h
theorem body_append {N : List Nd} {l : Nat} {a b qa qb : Pairs} {ga gb : List Nat} (h : Body N l a qa ga) (k : Body N l b qb gb) : Body N l (a ++ b) (qa ++ qb) (ga ++ gb) := by
  cases l with
  | zero => obtain ⟨rfl, rfl⟩ := h; obtain ⟨rfl, rfl⟩ := k; exact ⟨rfl, rfl⟩
  | succ l => exact Kids.append h k

/-- A sound tree below a lead. -/
structure SndL (N : List Nd) (root : Bool) (lv : Int) (lo hi : Nat) (l p : Nat) (ps qs : Pairs) (g : List Nat) : Prop where
  node : nodeOf N p = some (l, ps)
  fit : FitOk root lv lo hi l ps
  body : Body N l ps qs g
  srt : Srt qs
  high : ∀ q ∈ qs, q.1 ≤ hi

theorem fit_good' {root : Bool} {lv : Int} {lo hi L : Nat} {ps : Pairs} (h : FitOk root lv lo hi L ps) : goodN (L : Int) ps = true ∧ 0 < ps.length := by
  cases root with
  | true => exact ⟨h.1, h.2.1⟩
  | false => exact ⟨h.1, h.2.1⟩

theorem keyAt_mem {ps : Pairs} {i : Nat} (h : i < ps.length) : ∃ v, (keyAt ps i, v) ∈ ps := ⟨ps[i].2, by rw [keyAt_get h]; exact List.getElem_mem h⟩

/-- A node of a sound tree can be. -/
theorem body_good {N : List Nd} {l : Nat} {ps qs : Pairs} {g : List Nat} (h : Body N l ps qs g) (hs : Srt qs) (h0 : 0 < ps.length) (h1 : ps.length ≤ 15) (hl : l ≤ 7) (hN : N.length ≤ 511) : goodN (l : Int) ps = true := by
  have hr := (rises_srt ps).2 (body_srt h hs)
  unfold goodN countOk
  simp only [Bool.and_eq_true, Bool.or_eq_true, decide_eq_true_eq]
  refine ⟨⟨⟨⟨⟨by omega, by omega⟩, h1⟩, .inr h0⟩, hr⟩, ?_⟩
  cases l with
  | zero => exact .inl rfl
  | succ l =>
    refine .inr ?_
    have h : Kids (Snd N l) ps qs g := h
    clear hs hr h0 h1
    unfold pagesOk
    rw [List.all_eq_true]
    intro p hp
    have : ∀ {ps qs : Pairs} {g : List Nat}, Kids (Snd N l) ps qs g → ∀ p ∈ ps, 1 ≤ p.2 ∧ p.2 ≤ 511 := by
      intro ps
      induction ps with
      | nil => intro qs g _ p hp; cases hp
      | cons kv r ih =>
        rintro qs g ⟨q1, q2, g1, g2, rfl, rfl, h1, h2, h3, h4⟩ p hp
        rcases List.mem_cons.1 hp with rfl | hp
        · have := snd_page h1; omega
        · exact ih h4 p hp
    have := this h p hp
    simpa using this

theorem split_at (ps : Pairs) (i : Nat) (hi : i < ps.length) : ps = ps.take i ++ (keyAt ps i, valAt ps i) :: ps.drop (i + 1) := by
  rw [keyAt_get hi, valAt_get hi]
  exact (List.take_append_drop i ps).symm.trans (by rw [List.drop_eq_getElem_cons hi])

theorem keyAt_drop (ps : Pairs) (i : Nat) : keyAt (ps.drop i) 0 = keyAt ps i := by
  unfold keyAt
  simp [List.getD_eq_getElem?_getD]

theorem srt_le {a b c : Pairs} (h : Srt (a ++ b ++ c)) : (∀ p ∈ a, ∀ q ∈ b, p.1 < q.1) ∧ (∀ p ∈ b, ∀ q ∈ c, p.1 < q.1) ∧ (∀ p ∈ a, ∀ q ∈ c, p.1 < q.1) ∧ Srt a ∧ Srt b ∧ Srt c := by
  obtain ⟨h1, h2, h3⟩ := List.pairwise_append.1 h
  obtain ⟨h4, h5, h6⟩ := List.pairwise_append.1 h1
  exact ⟨h6, fun p hp => h3 p (List.mem_append_right _ hp), fun p hp => h3 p (List.mem_append_left _ hp), h4, h5, h2⟩

theorem srt_first {qs : Pairs} (h : Srt qs) : ∀ q ∈ qs, keyAt qs 0 ≤ q.1 := by
  intro q hq
  cases qs with
  | nil => cases hq
  | cons p r =>
    rcases List.mem_cons.1 hq with rfl | hq
    · exact Nat.le_refl _
    · exact Nat.le_of_lt ((List.pairwise_cons.1 h).1 q hq)

/-- The subtree of one of a node's pairs. -/
theorem SndL.kid {N : List Nd} {root : Bool} {lv : Int} {lo hi l p : Nat} {ps qs : Pairs} {g : List Nat} (h : SndL N root lv lo hi (l + 1) p ps qs g) (hl : l + 1 ≤ 7) (hN : N.length ≤ 511) (i : Nat) (hi' : i < ps.length) :
    ∃ ps' q1 q2 q3 g1 g' g3, qs = q1 ++ q2 ++ q3 ∧ g = g1 ++ (valAt ps i :: g') ++ g3 ∧ SndL N false (l : Int) (keyAt ps i) (highOf ps i hi) l (valAt ps i) ps' q2 g' ∧
      Kids (Snd N l) (ps.take i) q1 g1 ∧ Kids (Snd N l) (ps.drop (i + 1)) q3 g3 ∧ ps'.length ≤ 15 ∧ (∀ q ∈ q3, keyAt ps (i + 1) ≤ q.1) ∧ (∀ q ∈ q2, keyAt ps i ≤ q.1) ∧ Snd N l (valAt ps i) q2 (valAt ps i :: g') := by
  have hb : Kids (Snd N l) ps qs g := h.body
  rw [split_at ps i hi'] at hb
  obtain ⟨q1, qb, g1, gb, rfl, rfl, k1, q2, q3, g2, g3, rfl, rfl, s1, s2, s3, k3⟩ := hb.split
  obtain ⟨ps', g', n1, n2, n3, n4, rfl⟩ := snd_iff.1 s1
  have hs : Srt (q1 ++ q2 ++ q3) := by rw [List.append_assoc]; exact h.srt
  obtain ⟨t1, t2, t3, t4, t5, t6⟩ := srt_le hs
  have hh : ∀ q ∈ q2, q.1 ≤ highOf ps i hi := by
    intro q hq
    unfold highOf
    split
    · rename_i hlt
      obtain ⟨r1, r2⟩ := k3.pos (by rw [List.length_drop]; omega)
      rw [keyAt_drop] at r2
      obtain ⟨v, hv⟩ := keyAt_mem r1
      have := t2 q hq _ hv
      rw [r2] at this
      omega
    · exact h.high q (by simp [hq])
  obtain ⟨b1, b2⟩ := body_pos n4 n2
  refine ⟨ps', q1, q2, q3, g1, g', g3, by simp, by simp, ⟨n1, ⟨body_good n4 t5 n2 n3 (by omega) hN, n2, rfl, ?_, ?_⟩, n4, t5, hh⟩, k1, k3, n3, ?_, ?_, s1⟩
  · rw [← b2]; exact s3
  · have hm : ps'.length - 1 < ps'.length := by omega
    obtain ⟨v, hv⟩ := keyAt_mem hm
    obtain ⟨q, hq, e⟩ := body_key n4 _ hv
    have := hh q hq
    rw [e] at this
    exact this
  · intro q hq
    have hd : 0 < (ps.drop (i + 1)).length := by
      rcases Nat.eq_zero_or_pos (ps.drop (i + 1)).length with e | e
      · have : ps.drop (i + 1) = [] := List.length_eq_zero_iff.1 e
        rw [this] at k3
        obtain ⟨rfl, _⟩ := k3
        cases hq
      · exact e
    obtain ⟨r1, r2⟩ := k3.pos hd
    rw [keyAt_drop] at r2
    rw [← r2]
    exact srt_first t6 q hq
  · intro q hq
    have := srt_first t5 q hq
    rw [s3] at this
    exact this

/-- Which kid a key belongs to. -/
theorem kid_sides {ps : Pairs} (hr : Srt ps) (k : Nat) (h0 : 0 < ps.length) : (0 < kidOf ps k → keyAt ps (kidOf ps k) ≤ k) ∧ (kidOf ps k + 1 < ps.length → k < keyAt ps (kidOf ps k + 1)) := by
  have hr' := (rises_srt ps).2 hr
  have hu : uptoK ps k ≤ ps.length := List.countP_le_length
  have key : ∀ j, j < ps.length → (j < uptoK ps k ↔ keyAt ps j ≤ k) := by
    intro j hj
    have e : uptoK ps k = (ps.filter fun p => decide (p.1 ≤ k)).length := List.countP_eq_length_filter
    have split : ∃ a b, ps = a ++ b ∧ (∀ p ∈ a, p.1 ≤ k) ∧ ∀ p ∈ b, k < p.1 := by
      clear e hj hu hr' h0
      induction ps with
      | nil => exact ⟨[], [], rfl, (by intro p hp; cases hp), (by intro p hp; cases hp)⟩
      | cons x r ih =>
        obtain ⟨h1, h2⟩ := List.pairwise_cons.1 hr
        by_cases hx : x.1 ≤ k
        · obtain ⟨a, b, e, ha, hb⟩ := ih h2
          refine ⟨x :: a, b, by rw [e]; rfl, ?_, hb⟩
          intro p hp
          rcases List.mem_cons.1 hp with rfl | hp
          · exact hx
          · exact ha p hp
        · refine ⟨[], x :: r, rfl, (by intro p hp; cases hp), ?_⟩
          intro p hp
          rcases List.mem_cons.1 hp with rfl | hp
          · omega
          · have := h1 p hp; omega
    obtain ⟨a, b, e2, ha, hb⟩ := split
    have eu : uptoK ps k = a.length := by
      unfold uptoK
      rw [e2, List.countP_append]
      have c1 : a.countP (fun p => decide (p.1 ≤ k)) = a.length := by
        rw [List.countP_eq_length]; intro p hp; simpa using ha p hp
      have c2 : b.countP (fun p => decide (p.1 ≤ k)) = 0 := by
        rw [List.countP_eq_zero]; intro p hp; have := hb p hp; simp; omega
      omega
    rw [eu, keyAt_get hj]
    constructor
    · intro hlt
      have : ps[j] ∈ a := by
        have : ps[j] = a[j] := by simp [e2, List.getElem_append_left hlt]
        rw [this]; exact List.getElem_mem hlt
      exact ha _ this
    · intro hle
      rcases Nat.lt_or_ge j a.length with h' | h'
      · exact h'
      · have hjb : j - a.length < b.length := by rw [e2, List.length_append] at hj; omega
        have : ps[j] ∈ b := by
          have : ps[j] = b[j - a.length] := by simp [e2, List.getElem_append_right h']
          rw [this]; exact List.getElem_mem hjb
        have := hb _ this
        omega
  unfold kidOf
  constructor
  · intro h
    exact (key _ (by omega)).1 (by omega)
  · intro h
    have := (key _ h)
    rcases Nat.lt_or_ge k (keyAt ps (uptoK ps k - 1 + 1)) with h' | h'
    · exact h'
    · have := this.2 h'
      omega

/-- The nodes that so many pairs each make, and what leads there. -/
def nodesOf (lv m : Nat) (l : Pairs) (k : Nat) : List Nd := (List.range k).map fun j => (lv, (l.drop (m * j)).take m)
def leadsOf (n m : Nat) (l : Pairs) (k : Nat) : Pairs := (List.range k).map fun j => (keyAt l (m * j), n + j + 1)
def partsOf (m n : Nat) : Nat := (n + m - 1) / m
theorem nodesOf_length (lv m : Nat) (l : Pairs) (k : Nat) : (nodesOf lv m l k).length = k := by simp [nodesOf]
theorem leadsOf_length (n m : Nat) (l : Pairs) (k : Nat) : (leadsOf n m l k).length = k := by simp [leadsOf]
theorem nodesOf_succ (lv m : Nat) (l : Pairs) (k : Nat) : nodesOf lv m l (k + 1) = nodesOf lv m l k ++ [(lv, (l.drop (m * k)).take m)] := by simp [nodesOf, List.range_succ]
theorem leadsOf_succ (n m : Nat) (l : Pairs) (k : Nat) : leadsOf n m l (k + 1) = leadsOf n m l k ++ [(keyAt l (m * k), n + k + 1)] := by simp [leadsOf, List.range_succ]
theorem parts_lt {m n j : Nat} (hm : 0 < m) : j < partsOf m n ↔ m * j < n := by
  unfold partsOf
  rw [Nat.lt_iff_add_one_le, Nat.le_div_iff_mul_le hm, Nat.mul_comm (j + 1) m, Nat.mul_add]
  omega

/-- So many new pages beside some of the old ones. -/
def PgR (n n' : Nat) (g g' : List Nat) : Prop := ∃ h f, List.Perm g' (h ++ f) ∧ List.Sublist h g ∧ f.Nodup ∧ ∀ x ∈ f, n < x ∧ x ≤ n'
theorem PgR.refl (n : Nat) (g : List Nat) : PgR n n g g := ⟨g, [], by simp, .refl g, .nil, fun x h => by cases h⟩
theorem PgR.nodup {n n' : Nat} {g g' : List Nat} (h : PgR n n' g g') (hg : g.Nodup) (hn : ∀ x ∈ g, x ≤ n) : g'.Nodup := by
  obtain ⟨h, f, h1, h2, h3, h4⟩ := h
  rw [h1.nodup_iff, List.nodup_append]
  refine ⟨h2.nodup hg, h3, fun a ha b hb e => ?_⟩
  subst e
  have := hn a (h2.mem ha)
  have := h4 a hb
  omega
theorem PgR.mem {n n' : Nat} {g g' : List Nat} (h : PgR n n' g g') : ∀ x ∈ g', x ∈ g ∨ (n < x ∧ x ≤ n') := by
  obtain ⟨h, f, h1, h2, h3, h4⟩ := h
  intro x hx
  rcases List.mem_append.1 (h1.mem_iff.1 hx) with hx | hx
  · exact .inl (h2.mem hx)
  · exact .inr (h4 x hx)
theorem PgR.mid {n n' : Nat} {g g' : List Nat} (h : PgR n n' g g') (a b : List Nat) : PgR n n' (a ++ g ++ b) (a ++ g' ++ b) := by
  obtain ⟨h, f, h1, h2, h3, h4⟩ := h
  refine ⟨a ++ h ++ b, f, ?_, (List.Sublist.append (List.Sublist.append (.refl a) h2) (.refl b)), h3, h4⟩
  have : List.Perm (a ++ g' ++ b) (a ++ (h ++ f) ++ b) := (h1.append_left a).append_right b
  refine this.trans ?_
  rw [List.append_assoc, List.append_assoc, List.append_assoc, List.append_assoc]
  exact ((List.perm_append_comm).append_left h).append_left a
theorem PgR.cons {n n' : Nat} {g g' : List Nat} (h : PgR n n' g g') (p : Nat) : PgR n n' (p :: g) g' := by
  obtain ⟨h, f, h1, h2, h3, h4⟩ := h
  exact ⟨h, f, h1, .cons p h2, h3, h4⟩
theorem PgR.trans {n m n' : Nat} {g g1 g2 : List Nat} (h : PgR n m g g1) (k : PgR m n' g1 g2) (hnm : n ≤ m) (hmn : m ≤ n') : PgR n n' g g2 := by
  obtain ⟨h, f, h1, h2, h3, h4⟩ := h
  obtain ⟨h', f', k1, k2, k3, k4⟩ := k
  obtain ⟨z, hz1, hz2⟩ := List.exists_perm_sublist k2 h1
  obtain ⟨za, zb, rfl, hza, hzb⟩ := List.sublist_append_iff.1 hz2
  refine ⟨za, zb ++ f', ?_, hza.trans h2, ?_, ?_⟩
  · rw [← List.append_assoc]
    exact k1.trans (hz1.symm.append_right f')
  · rw [List.nodup_append]
    refine ⟨hzb.nodup h3, k3, fun a ha b hb e => ?_⟩
    subst e
    have := h4 a (hzb.mem ha)
    have := k4 a hb
    omega
  · intro x hx
    rcases List.mem_append.1 hx with hx | hx
    · have := h4 x (hzb.mem hx); omega
    · have := k4 x hx; omega
theorem PgR.app {n m n' : Nat} {a b a' b' : List Nat} (h : PgR n m a a') (k : PgR m n' b b') (hnm : n ≤ m) (hmn : m ≤ n') : PgR n n' (a ++ b) (a' ++ b') := by
  obtain ⟨h, f, h1, h2, h3, h4⟩ := h
  obtain ⟨h', f', k1, k2, k3, k4⟩ := k
  refine ⟨h ++ h', f ++ f', ?_, h2.append k2, ?_, ?_⟩
  · refine (h1.append k1).trans ?_
    simp only [List.append_assoc]
    refine List.Perm.append_left h ?_
    rw [← List.append_assoc, ← List.append_assoc]
    exact (List.perm_append_comm).append_right f'
  · rw [List.nodup_append]
    refine ⟨h3, k3, fun a ha b hb e => ?_⟩
    subst e
    have := h4 a ha
    have := k4 a hb
    omega
  · intro x hx
    rcases List.mem_append.1 hx with hx | hx
    · have := h4 x hx; omega
    · have := k4 x hx; omega

/-- What a page weighs: a leaf its pairs, eight at least. -/
def wt (N : List Nd) (p : Nat) : Nat := match nodeOf N p with
  | some (0, ps) => max ps.length 8
  | _ => 0
def phi (N : List Nd) (g : List Nat) : Nat := (g.map (wt N)).sum
theorem phi_append (N : List Nd) (a b : List Nat) : phi N (a ++ b) = phi N a + phi N b := by simp [phi]
theorem phi_cons (N : List Nd) (p : Nat) (b : List Nat) : phi N (p :: b) = wt N p + phi N b := by simp [phi]
theorem phi_app {N M : List Nd} {g : List Nat} (h : ∀ x ∈ g, 1 ≤ x ∧ x ≤ N.length) : phi (N ++ M) g = phi N g := by
  unfold phi
  congr 1
  refine List.map_congr_left fun x hx => ?_
  obtain ⟨h1, h2⟩ := h x hx
  unfold wt nodeOf
  rw [if_neg (by omega), if_neg (by omega), List.getElem?_append_left (by omega)]

/-- What parts weigh. -/
def partW (m : Nat) (l : Pairs) (k : Nat) : Nat := ((List.range k).map fun j => max ((l.drop (m * j)).take m).length 8).sum
theorem partW_succ (m : Nat) (l : Pairs) (k : Nat) : partW m l (k + 1) = partW m l k + max ((l.drop (m * k)).take m).length 8 := by simp [partW, List.range_succ]

theorem kids_one {N : List Nd} {lv p : Nat} {qs : Pairs} {pg : List Nat} (h : Snd N lv p qs pg) (h0 : 0 < qs.length) : Kids (Snd N lv) [(keyAt qs 0, p)] qs pg :=
  ⟨qs, [], pg, [], by simp, by simp, h, h0, rfl, rfl, rfl⟩

/-- Nodes that were added for a node's pairs. -/
theorem nodes_ok {N : List Nd} {lv m : Nat} {l qs : Pairs} {g : List Nat} (h : Body N lv l qs g) (hm : 0 < m) (hm15 : m ≤ 15) (K : Nat) (hK : K ≤ partsOf m l.length) :
    ∃ qa qb ga gb ga', qs = qa ++ qb ∧ g = ga ++ gb ∧ Body N lv (l.drop (m * K)) qb gb ∧ Kids (Snd (N ++ nodesOf lv m l K) lv) (leadsOf N.length m l K) qa ga' ∧ PgR N.length (N.length + K) ga ga' ∧
      phi (N ++ nodesOf lv m l K) ga' = (if lv = 0 then partW m l K else phi N ga) := by
  induction K with
  | zero =>
    refine ⟨[], qs, [], g, [], rfl, rfl, by simpa using h, ⟨rfl, rfl⟩, PgR.refl _ _, ?_⟩
    split <;> simp [phi, partW]
  | succ K ih =>
    obtain ⟨qa, qb, ga, gb, ga', rfl, rfl, h1, h2, h3, h4⟩ := ih (by omega)
    have hlt : m * K < l.length := (parts_lt hm).1 hK
    obtain ⟨c, hc⟩ : ∃ c, (l.drop (m * K)).take m = c := ⟨_, rfl⟩
    have hsp : l.drop (m * K) = c ++ l.drop (m * (K + 1)) := by
      rw [← hc, Nat.mul_succ, ← List.drop_drop]
      exact (List.take_append_drop m _).symm
    rw [hsp] at h1
    obtain ⟨q1, q2, g1, g2, rfl, rfl, b1, b2⟩ := body_split h1
    have hcl : 0 < c.length := by rw [← hc, List.length_take, List.length_drop]; omega
    have hcl15 : c.length ≤ 15 := by rw [← hc, List.length_take]; omega
    have hnode : nodeOf (N ++ nodesOf lv m l (K + 1)) (N.length + K + 1) = some (lv, c) := by
      unfold nodeOf
      rw [if_neg (by omega), nodesOf_succ, ← List.append_assoc, List.getElem?_append_right (by simp [nodesOf_length])]
      simp [nodesOf_length, hc]
    have hsnd : Snd (N ++ nodesOf lv m l (K + 1)) lv (N.length + K + 1) q1 ((N.length + K + 1) :: g1) := snd_iff.2 ⟨c, g1, hnode, hcl, hcl15, body_app b1, rfl⟩
    obtain ⟨p1, p2⟩ := body_pos b1 hcl
    have hk0 : keyAt q1 0 = keyAt l (m * K) := by
      rw [p2, ← keyAt_drop l (m * K), hsp]
      unfold keyAt
      simp [List.getD_eq_getElem?_getD, List.getElem?_append_left hcl]
    have hkid := kids_one hsnd p1
    rw [hk0] at hkid
    have h2' : Kids (Snd (N ++ nodesOf lv m l (K + 1)) lv) (leadsOf N.length m l K) qa ga' := by
      rw [nodesOf_succ, ← List.append_assoc]
      exact h2.mono fun _ _ _ => snd_app
    refine ⟨qa ++ q1, q2, ga ++ g1, g2, ga' ++ (N.length + K + 1) :: g1, by simp, by simp, b2, ?_, ?_, ?_⟩
    · rw [leadsOf_succ]
      exact h2'.append hkid
    · refine h3.app (m := N.length + K) (b := g1) (b' := (N.length + K + 1) :: g1) ?_ (by omega) (by omega)
      exact ⟨g1, [N.length + K + 1], List.perm_append_comm (l₁ := [N.length + K + 1]), .refl g1, by simp, by simp; omega⟩
    · have hb : ∀ x ∈ ga', 1 ≤ x ∧ x ≤ (N ++ nodesOf lv m l K).length := kids_pages (fun _ _ _ => snd_pages) h2
      have e1 : phi (N ++ nodesOf lv m l (K + 1)) ga' = phi (N ++ nodesOf lv m l K) ga' := by
        rw [nodesOf_succ, ← List.append_assoc]
        exact phi_app hb
      have e2 : phi (N ++ nodesOf lv m l (K + 1)) g1 = phi N g1 := phi_app (body_pages b1)
      have e3 : wt (N ++ nodesOf lv m l (K + 1)) (N.length + K + 1) = if lv = 0 then max c.length 8 else 0 := by
        unfold wt
        rw [hnode]
        cases lv with
        | zero => rfl
        | succ lv => rfl
      rw [phi_append, phi_cons, e1, e2, e3, h4]
      by_cases hlv : lv = 0
      · subst hlv
        obtain ⟨_, rfl⟩ := b1
        rw [if_pos rfl, if_pos rfl, if_pos rfl, partW_succ, hc]
        simp [phi]
      · rw [if_neg hlv, if_neg hlv, if_neg hlv, phi_append]
        omega

end Go.Proofs.Ytdbohcdjamhdjaa
/- Trees: what is parted, what climbs, and the way of a key. Of no program. -/
set_option linter.unusedVariables false
namespace Go.Proofs.Ytdbohcdjamhdjaa
open Go.RowKit

/-- Nodes are added, so many pairs each. -/
def nodesM (c lv m : Nat) (l : Pairs) (N : List Nd) : Option Pairs × List Nd :=
  if N.length + partsOf m l.length ≤ c then (some (leadsOf N.length m l (partsOf m l.length)), N ++ nodesOf lv m l (partsOf m l.length)) else (none, N ++ nodesOf lv m l (c - N.length))
/-- A node is added, parted if it has a pair too many. -/
def partM (c lv : Nat) (l : Pairs) (N : List Nd) : Option Pairs × List Nd := nodesM c lv (if 15 < l.length then 8 else 15) l N
/-- What a node becomes. -/
def withM (s : Stp) (xs : Pairs) : Pairs := s.ps.take s.fr ++ xs ++ s.ps.drop s.to
/-- What climbs up a way. -/
def climbM (c : Nat) : List Stp → Pairs → List Nd → Option Pairs × List Nd
  | [], xs, N => (some xs, N)
  | [s], xs, N => (some (withM s xs), N)
  | s :: t :: r, xs, N => match climbM c (t :: r) xs N with
    | (none, N1) => (none, N1)
    | (some l, N1) => match partM c t.lv l N1 with
      | (none, N2) => (none, N2)
      | (some ls, N2) => (some (withM s ls), N2)

/-- What a node that isn't added yet weighs. -/
def phiB (N : List Nd) (lv : Nat) (l : Pairs) (g : List Nat) : Nat := if lv = 0 then (if l.length = 0 then 0 else max l.length 8) else phi N g

theorem phi_node {N : List Nd} {l v : Nat} {ps q : Pairs} {g : List Nat} (h : nodeOf N v = some (l, ps)) (h0 : 0 < ps.length) (hb : Body N l ps q g) : phi N (v :: g) = phiB N l ps g := by
  rw [phi_cons]
  unfold wt phiB
  rw [h]
  cases l with
  | zero =>
    obtain ⟨_, rfl⟩ := hb
    simp [phi]
    intro e
    rw [e] at h0; cases h0
  | succ l => simp

theorem phiB_app {N M : List Nd} {l : Nat} {ps q : Pairs} {g : List Nat} (hb : Body N l ps q g) : phiB (N ++ M) l ps g = phiB N l ps g := by
  unfold phiB
  rw [phi_app (body_pages hb)]

theorem part_ok {N : List Nd} {lv : Nat} {l qs : Pairs} {g : List Nat} (h : Body N lv l qs g) (hl : l.length ≤ 16) (c : Nat) {o : Option Pairs} {N' : List Nd} (e : partM c lv l N = (o, N')) :
    ∃ M, N' = N ++ M ∧ M.length ≤ 2 ∧ N'.length ≤ max c N.length ∧ ∀ ls, o = some ls → ∃ g', Kids (Snd N' lv) ls qs g' ∧ PgR N.length N'.length g g' ∧ (0 < l.length → 0 < ls.length) ∧ ls.length ≤ (if l.length ≤ 15 then 1 else 2) ∧ phi N' g' = phiB N lv l g := by
  unfold partM nodesM at e
  obtain ⟨m, hm⟩ : ∃ m, (if 15 < l.length then 8 else 15) = m := ⟨_, rfl⟩
  have hm8 : m = 8 ∧ 15 < l.length ∨ m = 15 ∧ l.length ≤ 15 := by
    rw [← hm]
    split
    · exact .inl ⟨rfl, by omega⟩
    · exact .inr ⟨rfl, by omega⟩
  rw [hm] at e
  have hK : partsOf m l.length ≤ 2 := by
    unfold partsOf
    rcases hm8 with ⟨rfl, _⟩ | ⟨rfl, _⟩ <;> omega
  have hK1 : partsOf m l.length ≤ (if l.length ≤ 15 then 1 else 2) := by
    unfold partsOf
    rcases hm8 with ⟨rfl, h1⟩ | ⟨rfl, h1⟩
    · rw [if_neg (by omega)]; omega
    · rw [if_pos h1]; omega
  have hK0 : 0 < l.length → 0 < partsOf m l.length := by
    unfold partsOf
    rcases hm8 with ⟨rfl, h1⟩ | ⟨rfl, h1⟩ <;> omega
  split at e
  · rename_i hfit
    obtain ⟨rfl, rfl⟩ := Prod.mk.inj e
    refine ⟨_, rfl, by rw [nodesOf_length]; exact hK, by rw [List.length_append, nodesOf_length]; omega, ?_⟩
    rintro ls rfl'
    obtain rfl := Option.some.inj rfl'
    obtain ⟨qa, qb, ga, gb, ga', rfl, rfl, h1, h2, h3, h4⟩ := nodes_ok h (m := m) (by rcases hm8 with ⟨rfl, _⟩ | ⟨rfl, _⟩ <;> omega) (by rcases hm8 with ⟨rfl, _⟩ | ⟨rfl, _⟩ <;> omega) _ (Nat.le_refl _)
    have hd : l.drop (m * partsOf m l.length) = [] := by
      rw [List.drop_eq_nil_iff]
      rcases Nat.lt_or_ge (m * partsOf m l.length) l.length with h' | h'
      · have := (parts_lt (n := l.length) (j := partsOf m l.length) (m := m) (by rcases hm8 with ⟨rfl, _⟩ | ⟨rfl, _⟩ <;> omega)).2 h'
        omega
      · exact h'
    rw [hd] at h1
    have hqb : qb = [] ∧ gb = [] := by
      cases lv with
      | zero => exact ⟨h1.1.symm, h1.2⟩
      | succ lv => exact h1
    obtain ⟨rfl, rfl⟩ := hqb
    rw [List.append_nil] at *
    refine ⟨ga', h2, ?_, by rw [leadsOf_length]; exact hK0, by rw [leadsOf_length]; exact hK1, ?_⟩
    · rw [List.length_append, nodesOf_length]; simpa using h3
    · rw [h4]
      unfold phiB
      by_cases hlv : lv = 0
      · rw [if_pos hlv, if_pos hlv]
        rcases hm8 with ⟨rfl, h1⟩ | ⟨rfl, h1⟩
        · have : partsOf 8 l.length = 2 := by unfold partsOf; omega
          rw [this]
          simp only [partW, List.range, List.range.loop, List.map_cons, List.map_nil, List.sum_cons, List.sum_nil, List.length_take, List.length_drop]
          rw [if_neg (by omega)]
          omega
        · rcases Nat.eq_zero_or_pos l.length with h0 | h0
          · have : partsOf 15 l.length = 0 := by unfold partsOf; omega
            rw [this, if_pos h0]; rfl
          · have : partsOf 15 l.length = 1 := by unfold partsOf; omega
            rw [this, if_neg (by omega)]
            simp only [partW, List.range, List.range.loop, List.map_cons, List.map_nil, List.sum_cons, List.sum_nil, List.length_take, List.length_drop]
            omega
      · rw [if_neg hlv, if_neg hlv]
        simp
  · rename_i hfit
    obtain ⟨rfl, rfl⟩ := Prod.mk.inj e
    refine ⟨_, rfl, by rw [nodesOf_length]; omega, by rw [List.length_append, nodesOf_length]; omega, ?_⟩
    intro ls h
    cases h

theorem toOf_le {ps : Pairs} (h : Srt ps) (k : Nat) : belowK ps k ≤ toOf ps k ∧ toOf ps k ≤ belowK ps k + 1 ∧ toOf ps k ≤ ps.length := by
  have hb : belowK ps k ≤ ps.length := List.countP_le_length
  refine ⟨by unfold toOf; split <;> omega, by unfold toOf; split <;> omega, ?_⟩
  unfold toOf
  split
  · rename_i hk
    rcases Nat.lt_or_ge (belowK ps k) ps.length with h1 | h1
    · omega
    · exfalso
      unfold hasK at hk
      rw [List.any_eq_true] at hk
      obtain ⟨p, hp, e⟩ := hk
      have hall : ps.countP (fun p => decide (p.1 < k)) = ps.length := Nat.le_antisymm List.countP_le_length h1
      have := (List.countP_eq_length.1 hall) p hp
      simp at this e
      omega
  · exact hb

theorem leaf_len {ps xs : Pairs} (h : Srt ps) (k : Nat) (hx : xs.length ≤ 1) : (ps.take (belowK ps k) ++ xs ++ ps.drop (toOf ps k)).length ≤ ps.length + xs.length ∧ (0 < xs.length → ps.length ≤ (ps.take (belowK ps k) ++ xs ++ ps.drop (toOf ps k)).length) := by
  obtain ⟨h1, h2, h3⟩ := toOf_le h k
  simp only [List.length_append, List.length_take, List.length_drop]
  refine ⟨by omega, fun h => by omega⟩

/-- The last node of a way: the leaf of a key. -/
def LastS (N : List Nd) (k : Nat) (qs : Pairs) (s : Stp) : Prop := s.lv = 0 ∧ s.fr = belowK s.ps k ∧ s.to = toOf s.ps k ∧ Srt s.ps ∧ (∀ v, (k, v) ∈ qs ↔ (k, v) ∈ s.ps) ∧ s.ps.length ≤ 15

/-- What climbing leaves. -/
def ClimbR (N : List Nd) (k l c : Nat) (ps qs : Pairs) (g : List Nat) (xs : Pairs) (F : Nat) (o : Option Pairs) (N' : List Nd) : Prop :=
  ∃ M, N' = N ++ M ∧ M.length ≤ 2 * l ∧ N'.length ≤ max c N.length ∧ ∀ ps', o = some ps' → ∃ g', Body N' l ps' (chg xs k qs) g' ∧ PgR N.length N'.length g g' ∧ ps'.length ≤ ps.length + xs.length ∧ (0 < xs.length → ps.length ≤ ps'.length) ∧ phiB N' l ps' g' ≤ F

theorem climb_ok {N : List Nd} (hN : N.length ≤ 511) (k : Nat) : ∀ {l : Nat} {root : Bool} {lv : Int} {lo hi p : Nat} {ps qs : Pairs} {g : List Nat}, SndL N root lv lo hi l p ps qs g → l ≤ 7 → ps.length ≤ 15 →
    ∃ ws s, WayG N k ws root lv lo hi p ∧ ws.length = l + 1 ∧ ws.head? = some s ∧ s.lv = l ∧ s.ps = ps ∧ (∃ z, ws.getLast? = some z ∧ LastS N k qs z) ∧
      ∀ c xs, xs.length ≤ 1 → (∀ p ∈ xs, p.1 = k) → ∀ o N', climbM c ws xs N = (o, N') → ClimbR N k l c ps qs g xs (phiB N l ps g + xs.length) o N' := by
  intro l
  induction l with
  | zero =>
    intro root lv lo hi p ps qs g h hl h15
    obtain ⟨hb1, hb2⟩ := h.body
    subst hb1 hb2
    have hs : Srt ps := h.srt
    refine ⟨[⟨0, ps, belowK ps k, toOf ps k⟩], ⟨0, ps, belowK ps k, toOf ps k⟩, ⟨h.node, rfl, h.fit, rfl, rfl⟩, rfl, rfl, rfl, rfl, ⟨_, rfl, rfl, rfl, rfl, hs, fun v => Iff.rfl, h15⟩, ?_⟩
    intro c xs hx hk o N' e
    simp only [climbM] at e
    obtain ⟨rfl, rfl⟩ := Prod.mk.inj e
    refine ⟨[], by simp, by simp, by omega, ?_⟩
    rintro ps' e'
    obtain rfl := Option.some.inj e'
    obtain ⟨l1, l2⟩ := leaf_len hs k hx
    refine ⟨[], ⟨chg_leaf hs xs k, rfl⟩, PgR.refl _ _, l1, l2, ?_⟩
    have h0 := (fit_good' h.fit).2
    unfold withM
    unfold phiB
    rw [if_pos rfl, if_pos rfl]
    dsimp only
    split <;> split <;> omega
  | succ l ih =>
    intro root lv lo hi p ps qs g h hl h15
    obtain ⟨h0g, h0⟩ := fit_good' h.fit
    have hsrt : Srt ps := body_srt h.body h.srt
    have hki : kidOf ps k < ps.length := by
      have : uptoK ps k ≤ ps.length := List.countP_le_length
      unfold kidOf; omega
    obtain ⟨sd1, sd2⟩ := kid_sides hsrt k h0
    obtain ⟨i, hi'⟩ : ∃ i, kidOf ps k = i := ⟨_, rfl⟩
    rw [hi'] at hki sd1 sd2
    obtain ⟨ps', q1, q2, q3, g1, g', g3, rfl, rfl, hk, k1, k3, hp15, hq3, hq2, hsnd⟩ := h.kid hl hN i hki
    obtain ⟨ws, s, hw, hwl, hws, hslv, hsps, ⟨z, hz, hzl⟩, hc⟩ := ih hk (by omega) hp15
    have hq1k : ∀ p ∈ q1, p.1 < k := by
      intro p hp
      rcases Nat.eq_zero_or_pos i with e | e
      · subst e
        obtain ⟨rfl, _⟩ : q1 = [] ∧ g1 = [] := by simpa [Kids] using k1
        cases hp
      · have hs := (srt_le h.srt).1 p hp
        have h1 : 0 < q2.length := by
          obtain ⟨pp, gg, n1, n2, n3, n4, _⟩ := snd_iff.1 hsnd
          exact (body_pos n4 n2).1
        obtain ⟨v, hv⟩ := keyAt_mem h1
        have := hs _ hv
        have e2 : keyAt q2 0 = keyAt ps i := by
          rw [(body_pos hk.body (fit_good' hk.fit).2).2]
          exact hk.fit.2.2.2.1
        have := sd1 e
        simp only at *
        omega
    have hq3k : ∀ p ∈ q3, k < p.1 := by
      intro p hp
      rcases Nat.lt_or_ge (i + 1) ps.length with e | e
      · have := sd2 e
        have := hq3 p hp
        omega
      · have : ps.drop (i + 1) = [] := List.drop_eq_nil_iff.2 e
        rw [this] at k3
        obtain ⟨rfl, _⟩ := k3
        cases hp
    obtain ⟨t, r, rfl⟩ : ∃ t r, ws = t :: r := by
      cases ws with
      | nil => cases hwl
      | cons t r => exact ⟨t, r, rfl⟩
    obtain rfl : t = s := by simpa using hws
    refine ⟨⟨l + 1, ps, i, i + 1⟩ :: t :: r, ⟨l + 1, ps, i, i + 1⟩, ⟨h.node, by simp, h.fit, hi'.symm, rfl, ?_⟩, by simp [hwl], rfl, rfl, rfl, ⟨z, by simpa [List.getLast?_cons_cons] using hz, ?_⟩, ?_⟩
    · have : ((l + 1 : Nat) : Int) - 1 = (l : Int) := by omega
      show WayG N k (t :: r) false (((l + 1 : Nat) : Int) - 1) (keyAt ps i) (highOf ps i hi) (valAt ps i)
      rw [this]
      exact hw
    · obtain ⟨z1, z2, z3, z4, z5, z6⟩ := hzl
      refine ⟨z1, z2, z3, z4, fun v => ?_, z6⟩
      rw [← z5]
      simp only [List.mem_append]
      constructor
      · rintro ((h | h) | h)
        · have := hq1k _ h; simp at this
        · exact h
        · have := hq3k _ h; simp at this
      · intro h; exact .inl (.inr h)
    · intro c xs hx hkx o N' e
      unfold climbM at e
      cases hcl : climbM c (t :: r) xs N with
      | mk o1 N1 =>
        rw [hcl] at e
        obtain ⟨M1, rfl, m1, m2, m3⟩ := hc c xs hx hkx o1 N1 hcl
        cases o1 with
        | none =>
          obtain ⟨rfl, rfl⟩ := Prod.mk.inj e
          exact ⟨M1, rfl, by omega, m2, by intro ps' h; cases h⟩
        | some l1 =>
          obtain ⟨ga, b1, b2, b3, b4, b5⟩ := m3 l1 rfl
          dsimp only at e
          cases hpt : partM c t.lv l1 (N ++ M1) with
          | mk o2 N2 =>
            rw [hpt] at e
            rw [hslv] at hpt
            obtain ⟨M2, rfl, p1, p2, p3⟩ := part_ok b1 (by omega) c hpt
            cases o2 with
            | none =>
              obtain ⟨rfl, rfl⟩ := Prod.mk.inj e
              exact ⟨M1 ++ M2, by simp, by simp; omega, by omega, by intro ps' h; cases h⟩
            | some ls =>
              obtain ⟨rfl, rfl⟩ := Prod.mk.inj e
              obtain ⟨gb, d1, d2, d3, d4, d5⟩ := p3 ls rfl
              refine ⟨M1 ++ M2, by simp, by simp; omega, by omega, ?_⟩
              rintro ps2 e2
              obtain rfl := Option.some.inj e2
              have hlen : (withM ⟨l + 1, ps, i, i + 1⟩ ls).length = i + ls.length + (ps.length - (i + 1)) := by
                simp only [withM, List.length_append, List.length_take, List.length_drop]; omega
              refine ⟨g1 ++ gb ++ g3, ?_, ?_, ?_, ?_, ?_⟩
              · rw [chg_mid hq1k hq3k]
                show Kids (Snd (N ++ M1 ++ M2) l) (ps.take i ++ ls ++ ps.drop (i + 1)) _ _
                exact ((k1.mono fun _ _ _ h => snd_app (snd_app h)).append d1).append (k3.mono fun _ _ _ h => snd_app (snd_app h))
              · refine PgR.mid ?_ g1 g3
                exact (b2.cons (valAt ps i)).trans d2 (by simp) (by simp)
              · rw [hlen]
                have : ls.length ≤ 1 + xs.length := by
                  split at d4
                  · omega
                  · omega
                omega
              · intro hxs
                rw [hlen]
                have : 0 < ls.length := d3 (by have := b4 hxs; have := (fit_good' hk.fit).2; omega)
                omega
              · have hg1 := kids_pages (fun _ _ _ => snd_pages) k1
                have hg3 := kids_pages (fun _ _ _ => snd_pages) k3
                have e1 : phi (N ++ M1 ++ M2) g1 = phi N g1 := by rw [List.append_assoc]; exact phi_app hg1
                have e3 : phi (N ++ M1 ++ M2) g3 = phi N g3 := by rw [List.append_assoc]; exact phi_app hg3
                have e2 : phi N (valAt ps i :: g') = phiB N l ps' g' := phi_node hk.node (fit_good' hk.fit).2 hk.body
                unfold phiB
                rw [if_neg (by omega), if_neg (by omega)]
                rw [phi_append, phi_append, phi_append, phi_append, e1, e3, e2, d5]
                omega

end Go.Proofs.Ytdbohcdjamhdjaa
/- Trees: Put, Drop, Get, Build over nodes. Of no program. -/
set_option linter.unusedVariables false
namespace Go.Proofs.Ytdbohcdjamhdjaa
open Go.RowKit

/-- Nodes up to a single one. -/
def pileM (c : Nat) : Nat → Nat → Pairs → List Nd → Option Nat × List Nd
  | 0, _, _, N => (some 0, N)
  | f + 1, lv, l, N => if l.length = 0 then (some 0, N) else match nodesM c lv 15 l N with
    | (none, N1) => (none, N1)
    | (some ls, N1) => if ls.length = 1 then (some (valAt ls 0), N1) else pileM c f (lv + 1) ls N1

/-- So many nodes that takes. -/
def needM : Nat → Nat → Nat
  | 0, _ => 0
  | f + 1, n => if n = 0 then 0 else partsOf 15 n + (if n ≤ 15 then 0 else needM f (partsOf 15 n))

def topH : Nat := 18446744073709551615
/-- A tree. -/
def TreeG (N : List Nd) (root l : Nat) (qs : Pairs) (g : List Nat) : Prop :=
  (root = 0 ∧ qs = [] ∧ g = [] ∧ l = 0) ∨ ∃ ps g', SndL N true 0 0 topH l root ps qs g' ∧ l ≤ 7 ∧ ps.length ≤ 15 ∧ g = root :: g'

theorem TreeG.srt {N : List Nd} {root l : Nat} {qs : Pairs} {g : List Nat} (h : TreeG N root l qs g) : Srt qs := by
  rcases h with ⟨_, rfl, _⟩ | ⟨ps, g', h, _⟩
  · exact .nil
  · exact h.srt
theorem TreeG.le {N : List Nd} {root l : Nat} {qs : Pairs} {g : List Nat} (h : TreeG N root l qs g) : ∀ q ∈ qs, q.1 ≤ topH := by
  rcases h with ⟨_, rfl, _⟩ | ⟨ps, g', h, _⟩
  · intro q hq; cases hq
  · exact h.high
theorem TreeG.pages {N : List Nd} {root l : Nat} {qs : Pairs} {g : List Nat} (h : TreeG N root l qs g) : ∀ x ∈ g, 1 ≤ x ∧ x ≤ N.length := by
  rcases h with ⟨_, _, rfl, _⟩ | ⟨ps, g', h, _, _, rfl⟩
  · intro q hq; cases hq
  · intro x hx
    rcases List.mem_cons.1 hx with rfl | hx
    · exact nodeOf_le h.node
    · exact body_pages h.body x hx
theorem TreeG.app {N M : List Nd} {root l : Nat} {qs : Pairs} {g : List Nat} (h : TreeG N root l qs g) : TreeG (N ++ M) root l qs g := by
  rcases h with h | ⟨ps, g', h, h2, h3, h4⟩
  · exact .inl h
  · exact .inr ⟨ps, g', ⟨nodeOf_app h.node, h.fit, body_app h.body, h.srt, h.high⟩, h2, h3, h4⟩

theorem root_fit {N : List Nd} {l : Nat} {ps qs : Pairs} {g : List Nat} (h : Body N l ps qs g) (hs : Srt qs) (h0 : 0 < ps.length) (h1 : ps.length ≤ 15) (hl : l ≤ 7) (hN : N.length ≤ 511) (hr : l = 0 ∨ 2 ≤ ps.length) : FitOk true 0 0 topH l ps :=
  ⟨body_good h hs h0 h1 hl hN, h0, by omega⟩

theorem pile_ok {c : Nat} (hc : c ≤ 511) : ∀ (f lv : Nat) (l qs : Pairs) (g : List Nat) (N : List Nd) (d : Nat), Body N lv l qs g → N.length ≤ 511 → 0 < l.length → (lv = 0 ∨ 2 ≤ l.length) → l.length ≤ f → l.length ≤ 15 ^ (d + 1) → lv + d ≤ 7 → Srt qs → (∀ q ∈ qs, q.1 ≤ topH) →
    ∀ o N', pileM c f lv l N = (o, N') → ∃ M, N' = N ++ M ∧ N'.length ≤ max c N.length ∧ ∀ r, o = some r → ∃ lv' g', lv' ≤ lv + d ∧ TreeG N' r lv' qs g' ∧ PgR N.length N'.length g g' ∧ (l.length ≤ 15 → lv' = lv ∧ phi N' g' = phiB N lv l g ∧ M.length = 1) := by
  intro f
  induction f with
  | zero => intro lv l qs g N d _ _ h0 _ hf; omega
  | succ f ih =>
    intro lv l qs g N d hb hN h0 hr hf hd hlv hs hh o N' e
    unfold pileM at e
    rw [if_neg (by omega)] at e
    unfold nodesM at e
    split at e
    · rename_i o1 N1 heq
      split at heq
      · cases heq
      · obtain ⟨_, rfl⟩ := Prod.mk.inj heq
        obtain ⟨rfl, rfl⟩ := Prod.mk.inj e
        exact ⟨_, rfl, by rw [List.length_append, nodesOf_length]; omega, by intro r h; cases h⟩
    · rename_i o1 ls N1 heq
      split at heq
      · rename_i hfit
        obtain ⟨e1, rfl⟩ := Prod.mk.inj heq
        obtain rfl := Option.some.inj e1
        obtain ⟨qa, qb, ga, gb, ga', rfl, rfl, h1, h2, h3, h4⟩ := nodes_ok hb (m := 15) (by omega) (by omega) _ (Nat.le_refl _)
        have hdr : l.drop (15 * partsOf 15 l.length) = [] := by
          rw [List.drop_eq_nil_iff]
          unfold partsOf; omega
        rw [hdr] at h1
        have hqb : qb = [] ∧ gb = [] := by
          cases lv with
          | zero => exact ⟨h1.1.symm, h1.2⟩
          | succ lv => exact h1
        obtain ⟨rfl, rfl⟩ := hqb
        simp only [List.append_nil] at *
        have hlen1 : (N ++ nodesOf lv 15 l (partsOf 15 l.length)).length = N.length + partsOf 15 l.length := by rw [List.length_append, nodesOf_length]
        split at e
        · rename_i hone
          rw [leadsOf_length] at hone
          obtain ⟨rfl, rfl⟩ := Prod.mk.inj e
          have hl15 : l.length ≤ 15 := by unfold partsOf at hone; omega
          rw [hone] at h2 h3 h4 hlen1 ⊢
          have hnode : nodeOf (N ++ nodesOf lv 15 l 1) (N.length + 1) = some (lv, l) := by
            unfold nodeOf
            rw [if_neg (by omega), List.getElem?_append_right (by simp)]
            simp only [nodesOf, List.range, List.range.loop, List.map_cons, List.map_nil, Nat.mul_zero, List.drop_zero, Nat.add_sub_cancel, Nat.sub_self, List.getElem?_cons_zero]
            rw [List.take_of_length_le hl15]
          have hbody := body_app (M := nodesOf lv 15 l 1) hb
          have hval : valAt (leadsOf N.length 15 l 1) 0 = N.length + 1 := by simp [leadsOf, valAt, List.range, List.range.loop]
          rw [hval]
          refine ⟨_, rfl, by omega, ?_⟩
          rintro r e
          obtain rfl := Option.some.inj e
          refine ⟨lv, (N.length + 1) :: ga, by omega, .inr ⟨l, ga, ⟨hnode, root_fit hbody hs h0 hl15 (by omega) (by omega) hr, hbody, hs, hh⟩, by omega, hl15, rfl⟩, ?_, fun _ => ⟨rfl, ?_, ?_⟩⟩
          · rw [hlen1]
            exact ⟨ga, [N.length + 1], List.perm_append_comm (l₁ := [N.length + 1]), .refl ga, by simp, by simp⟩
          · rw [phi_node hnode h0 hbody, phiB_app hb]
          · rw [nodesOf_length]
        · rename_i hone
          rw [leadsOf_length] at hone
          have hK0 : 0 < partsOf 15 l.length := by unfold partsOf; omega
          have h16 : 15 < l.length := by unfold partsOf at hone hK0; omega
          obtain ⟨d, rfl⟩ : ∃ d', d = d' + 1 := by
            cases d with
            | zero => simp at hd; omega
            | succ d => exact ⟨d, rfl⟩
          have hKd : partsOf 15 l.length ≤ 15 ^ (d + 1) := by
            unfold partsOf
            rw [Nat.pow_succ] at hd
            omega
          obtain ⟨M, rfl, r1, r2⟩ := ih (lv + 1) (leadsOf N.length 15 l (partsOf 15 l.length)) qa ga' _ d h2 (by omega) (by rw [leadsOf_length]; omega) (.inr (by rw [leadsOf_length]; omega)) (by rw [leadsOf_length]; unfold partsOf; omega) (by rw [leadsOf_length]; exact hKd) (by omega) hs hh o N' e
          refine ⟨_, by rw [List.append_assoc], by omega, ?_⟩
          intro r hr'
          obtain ⟨lv', g', s1, s2, s3, _⟩ := r2 r hr'
          refine ⟨lv', g', by omega, s2, ?_, fun h => by omega⟩
          have : PgR N.length (N ++ nodesOf lv 15 l (partsOf 15 l.length)).length ga ga' := by rw [hlen1]; exact h3
          exact this.trans s3 (by omega) (by simp)
      · cases heq

theorem pile_need {c : Nat} : ∀ (f lv : Nat) (l : Pairs) (N : List Nd), l.length ≤ f → ∀ o N', pileM c f lv l N = (o, N') → N.length ≤ c →
    (c < N.length + needM f l.length → o = none) ∧ (N.length + needM f l.length ≤ c → o.isSome ∧ N'.length = N.length + needM f l.length) := by
  intro f
  induction f with
  | zero =>
    intro lv l N hf o N' e hN
    obtain ⟨rfl, rfl⟩ := Prod.mk.inj e
    simp [needM]; omega
  | succ f ih =>
    intro lv l N hf o N' e hN
    unfold pileM at e
    unfold needM
    split at e
    · rename_i h0
      obtain ⟨rfl, rfl⟩ := Prod.mk.inj e
      rw [if_pos h0]; simp; omega
    · rename_i h0
      rw [if_neg h0]
      unfold nodesM at e
      split at e
      · rename_i o1 N1 heq
        split at heq
        · cases heq
        · obtain ⟨_, rfl⟩ := Prod.mk.inj heq
          obtain ⟨rfl, rfl⟩ := Prod.mk.inj e
          refine ⟨fun _ => rfl, fun h => ?_⟩
          omega
      · rename_i o1 ls N1 heq
        split at heq
        · rename_i hfit
          obtain ⟨e1, rfl⟩ := Prod.mk.inj heq
          obtain rfl := Option.some.inj e1
          have hlen1 : (N ++ nodesOf lv 15 l (partsOf 15 l.length)).length = N.length + partsOf 15 l.length := by rw [List.length_append, nodesOf_length]
          rw [leadsOf_length] at e
          split at e
          · rename_i hone
            obtain ⟨rfl, rfl⟩ := Prod.mk.inj e
            have hl15 : l.length ≤ 15 := by unfold partsOf at hone; omega
            rw [if_pos hl15]
            refine ⟨fun h => by omega, fun h => ⟨rfl, by omega⟩⟩
          · rename_i hone
            have h16 : ¬ l.length ≤ 15 := by unfold partsOf at hone; omega
            rw [if_neg h16]
            have := ih (lv + 1) (leadsOf N.length 15 l (partsOf 15 l.length)) _ (by rw [leadsOf_length]; unfold partsOf; omega) o N' e (by omega)
            rw [leadsOf_length, hlen1] at this
            obtain ⟨t1, t2⟩ := this
            refine ⟨fun h => t1 (by omega), fun h => ?_⟩
            obtain ⟨t3, t4⟩ := t2 (by omega)
            exact ⟨t3, by omega⟩
        · cases heq

/-- The way of a key, of the tree without pairs too. -/
def DescW (N : List Nd) (k root : Nat) (ws : List Stp) : Prop := (root = 0 ∧ ws = [⟨0, [], 0, 0⟩]) ∨ WayG N k ws true 0 0 topH root

def lvOf (ws : List Stp) : Nat := (ws.headD ⟨0, [], 0, 0⟩).lv

def putM (c : Nat) (ws : List Stp) (x : Nat × Nat) (N : List Nd) : Option Nat × List Nd := match climbM c ws [x] N with
  | (none, N1) => (none, N1)
  | (some l, N1) => match partM c (lvOf ws) l N1 with
    | (none, N2) => (none, N2)
    | (some ls, N2) => if 1 < ls.length then pileM c ls.length (lvOf ws + 1) ls N2 else (some (valAt ls 0), N2)

/-- The first page on the way down that can be a root. -/
def lowM (N : List Nd) : Nat → Nat → Nat
  | 0, p => p
  | l + 1, p => match nodeOf N p with
    | some (_, ps) => if 1 < ps.length then p else lowM N l (valAt ps 0)
    | none => p
def dropM (c : Nat) (ws : List Stp) (N : List Nd) : Option Nat × List Nd := match climbM c ws [] N with
  | (none, N1) => (none, N1)
  | (some l, N1) => if 0 < lvOf ws ∧ l.length = 1 then (some (lowM N1 (lvOf ws - 1) (valAt l 0)), N1) else pileM c (l.length + 1) (lvOf ws) l N1

theorem kids_phi {N : List Nd} : ∀ {ps qs : Pairs} {g : List Nat}, Kids (Snd N 0) ps qs g → 8 * ps.length ≤ phi N g := by
  intro ps
  induction ps with
  | nil => intro qs g _; simp
  | cons kv r ih =>
    rintro qs g ⟨q1, q2, g1, g2, rfl, rfl, h1, h2, h3, h4⟩
    have := ih h4
    obtain ⟨n1, n2, n3, rfl⟩ := h1
    rw [phi_append]
    have e : phi N [kv.2] = max q1.length 8 := by
      have : phi N [kv.2] = wt N kv.2 := by simp [phi]
      rw [this]
      unfold wt
      rw [n1]
      rfl
    rw [e, List.length_cons]
    omega

theorem kids_single {S : Nat → Pairs → List Nat → Prop} {ls qs : Pairs} {g : List Nat} (h : Kids S ls qs g) (h1 : ls.length = 1) : S (valAt ls 0) qs g := by
  cases ls with
  | nil => cases h1
  | cons kv r =>
    cases r with
    | nil =>
      obtain ⟨q1, q2, g1, g2, rfl, rfl, h1, h2, h3, rfl, rfl⟩ := h
      simp only [List.append_nil]
      exact h1
    | cons _ _ => simp at h1

theorem chg_le {k v : Nat} {qs xs : Pairs} (h : ∀ q ∈ qs, q.1 ≤ topH) (hk : ∀ p ∈ xs, p.1 ≤ topH) : ∀ q ∈ chg xs k qs, q.1 ≤ topH := by
  intro q hq
  rcases mem_chg hq with h1 | h1
  · exact h q h1
  · exact hk q h1

theorem node_new (N : List Nd) (nd : Nd) : nodeOf (N ++ [nd]) (N.length + 1) = some nd := by
  unfold nodeOf
  rw [if_neg (by omega), List.getElem?_append_right (by omega)]
  simp
theorem part_one {c lv : Nat} {l : Pairs} {N : List Nd} (h0 : 0 < l.length) (h : l.length ≤ 15) : partM c lv l N = if N.length + 1 ≤ c then (some [(keyAt l 0, N.length + 1)], N ++ [(lv, l)]) else (none, N) := by
  have hp : partsOf 15 l.length = 1 := by unfold partsOf; omega
  unfold partM nodesM
  rw [if_neg (show ¬ 15 < l.length by omega), hp]
  split
  · simp [leadsOf, nodesOf, List.range, List.range.loop, List.take_of_length_le h]
  · have : c - N.length = 0 := by omega
    simp [this, nodesOf]

/-- What Put leaves. -/
theorem put_ok {N : List Nd} (hN : N.length ≤ 511) {c root l k v : Nat} {qs : Pairs} {g : List Nat} (hc : c ≤ 511) (h : TreeG N root l qs g) (hl : l ≤ 6) (hk : k ≤ topH) :
    ∃ ws, DescW N k root ws ∧ ws.length = l + 1 ∧ (∃ z, ws.getLast? = some z ∧ LastS N k qs z) ∧ ∀ o N', putM c ws (k, v) N = (o, N') → ∃ M, N' = N ++ M ∧ M.length ≤ 2 * l + 3 ∧ N'.length ≤ max c N.length ∧
      ∀ r, o = some r → ∃ l' g', TreeG N' r l' (chg [(k, v)] k qs) g' ∧ PgR N.length N'.length g g' ∧ l' ≤ l + 1 ∧ phi N' g' ≤ max (phi N g + 1) 8 ∧ (l ≤ 1 → phi N g < 127 → l' ≤ 1) := by
  have hx : Srt [(k, v)] := List.pairwise_singleton ..
  have hxk : ∀ p ∈ [(k, v)], p.1 = k := by intro p hp; rw [List.mem_singleton.1 hp]
  have hxt : ∀ p ∈ [(k, v)], p.1 ≤ topH := by intro p hp; rw [List.mem_singleton.1 hp]; exact hk
  have hs2 := srt_chg h.srt hx hxk
  have hh2 := chg_le (k := k) (v := v) h.le hxt
  have main : ∀ (ws : List Stp) (ps : Pairs) (g0 : List Nat), lvOf ws = l → ps.length ≤ 15 → (l = 0 ∨ 2 ≤ ps.length) → (∀ x ∈ g0, 1 ≤ x ∧ x ≤ N.length) → (∀ o N', climbM c ws [(k, v)] N = (o, N') → ClimbR N k l c ps qs g0 [(k, v)] (max (phi N g + 1) 8) o N') → PgR N.length N.length g g0 → 
      ∀ o N', putM c ws (k, v) N = (o, N') → ∃ M, N' = N ++ M ∧ M.length ≤ 2 * l + 3 ∧ N'.length ≤ max c N.length ∧
      ∀ r, o = some r → ∃ l' g', TreeG N' r l' (chg [(k, v)] k qs) g' ∧ PgR N.length N'.length g g' ∧ l' ≤ l + 1 ∧ phi N' g' ≤ max (phi N g + 1) 8 ∧ (l ≤ 1 → phi N g < 127 → l' ≤ 1) := by
    intro ws ps g0 hlv h15 hroot hg0 hcl hpg o N' e
    unfold putM at e
    cases hc1 : climbM c ws [(k, v)] N with
    | mk o1 N1 =>
      rw [hc1] at e
      obtain ⟨M1, rfl, m1, m2, m3⟩ := hcl o1 N1 hc1
      cases o1 with
      | none =>
        obtain ⟨rfl, rfl⟩ := Prod.mk.inj e
        exact ⟨M1, rfl, by omega, m2, by intro r h; cases h⟩
      | some l1 =>
        obtain ⟨ga, b1, b2, b3, b4, b5⟩ := m3 l1 rfl
        have hone : [(k, v)].length = 1 := rfl
        dsimp only at e
        rw [hlv] at e
        have hl1 : 0 < l1.length := by
          rcases Nat.eq_zero_or_pos l1.length with e0 | e0
          · exfalso
            have : l1 = [] := List.length_eq_zero_iff.1 e0
            subst this
            have : chg [(k, v)] k qs = [] := by
              cases l with
              | zero => exact b1.1.symm
              | succ l => exact b1.1
            have : (k, v) ∈ chg [(k, v)] k qs := by unfold chg; simp
            simp_all
          · exact e0
        cases hpt : partM c l l1 (N ++ M1) with
        | mk o2 N2 =>
          rw [hpt] at e
          obtain ⟨M2, rfl, p1, p2, p3⟩ := part_ok b1 (by omega) c hpt
          cases o2 with
          | none =>
            obtain ⟨rfl, rfl⟩ := Prod.mk.inj e
            exact ⟨M1 ++ M2, by simp, by simp; omega, by omega, by intro r h; cases h⟩
          | some ls =>
            obtain ⟨gb, d1, d2, d3, d4, d5⟩ := p3 ls rfl
            have hls := d3 hl1
            have hpg2 : PgR N.length (N ++ M1 ++ M2).length g gb := ((hpg.trans b2 (by omega) (by simp)).trans d2 (by simp) (by simp))
            dsimp only at e
            have hN2 : (N ++ M1 ++ M2).length ≤ 511 := by omega
            split at e
            · rename_i h2
              have hl2 : ls.length = 2 := by split at d4 <;> omega
              obtain ⟨M3, rfl, r1, r2⟩ := pile_ok hc ls.length (l + 1) ls _ gb _ 0 d1 hN2 (by omega) (.inr (by omega)) (by omega) (by simp; omega) (by omega) hs2 hh2 o N' e
              have h16 : l1.length = 16 := by
                split at d4
                · omega
                · omega
              have hM3 : M3.length ≤ 1 := by
                cases o with
                | none =>
                  have hpz : partsOf 15 ls.length = 1 := by rw [hl2]; rfl
                  unfold pileM at e
                  rw [hl2] at e
                  simp only at e
                  unfold nodesM at e
                  rw [hl2] at e
                  split at e
                  · rename_i e0; omega
                  · split at e
                    · rename_i heq
                      split at heq
                      · cases heq
                      · rename_i hno
                        obtain ⟨_, e3⟩ := Prod.mk.inj e
                        obtain ⟨_, e2⟩ := Prod.mk.inj heq
                        have : (N ++ M1 ++ M2 ++ M3).length = (N ++ M1 ++ M2).length + (c - (N ++ M1 ++ M2).length) := by
                          rw [← e3, ← e2, List.length_append, nodesOf_length]
                        have hp2 : partsOf 15 2 = 1 := rfl
                        rw [hp2] at hno
                        rw [List.length_append] at this
                        omega
                    · rename_i heq
                      split at heq
                      · obtain ⟨e1, _⟩ := Prod.mk.inj heq
                        obtain rfl := Option.some.inj e1
                        rw [leadsOf_length] at e
                        have hp2 : partsOf 15 2 = 1 := rfl
                        rw [hp2] at e
                        simp at e
                      · cases heq
                | some r =>
                  obtain ⟨_, _, _, _, _, t⟩ := r2 r rfl
                  exact Nat.le_of_eq (t (by omega)).2.2
              refine ⟨M1 ++ M2 ++ M3, by simp, by simp; omega, by omega, ?_⟩
              intro r hr
              obtain ⟨lv', g', s1, s2, s3, s4⟩ := r2 r hr
              obtain ⟨s5, s6, _⟩ := s4 (by omega)
              refine ⟨lv', g', s2, hpg2.trans s3 (by simp) (by simp), by omega, ?_, ?_⟩
              · rw [s6]
                unfold phiB
                rw [if_neg (by omega), d5]
                omega
              · intro hl1' hlt
                rcases Nat.eq_zero_or_pos l with e0 | e0
                · omega
                · exfalso
                  obtain rfl : l = 1 := by omega
                  have hb1 : Kids (Snd (N ++ M1) 0) l1 _ ga := b1
                  have := kids_phi hb1
                  have e5 : phiB (N ++ M1) 1 l1 ga = phi (N ++ M1) ga := rfl
                  omega
            · rename_i h2
              obtain ⟨rfl, rfl⟩ := Prod.mk.inj e
              refine ⟨M1 ++ M2, by simp, by simp; omega, by omega, ?_⟩
              rintro r e
              obtain rfl := Option.some.inj e
              have hs1 := kids_single d1 (by omega)
              obtain ⟨pps, gg, n1, n2, n3, n4, rfl⟩ := snd_iff.1 hs1
              have hl15' : l1.length ≤ 15 := by
                rcases Nat.lt_or_ge 15 l1.length with e0 | e0
                · exfalso
                  unfold partM nodesM at hpt
                  rw [if_pos e0] at hpt
                  split at hpt
                  · obtain ⟨e1, _⟩ := Prod.mk.inj hpt
                    obtain rfl := Option.some.inj e1
                    rw [leadsOf_length] at h2
                    unfold partsOf at h2; omega
                  · cases hpt
                · exact e0
              have hroot2 : l = 0 ∨ 2 ≤ pps.length := by
                rcases hroot with e | e
                · exact .inl e
                · right
                  have : 2 ≤ l1.length := by have := b4 (by simp); omega
                  rw [part_one hl1 hl15'] at hpt
                  split at hpt
                  · obtain ⟨e1, e2⟩ := Prod.mk.inj hpt
                    obtain rfl := Option.some.inj e1
                    rw [← e2] at n1
                    have hv : valAt [(keyAt l1 0, (N ++ M1).length + 1)] 0 = (N ++ M1).length + 1 := rfl
                    rw [hv, node_new] at n1
                    simp only [Option.some.injEq, Prod.mk.injEq, true_and] at n1
                    rw [← n1]; exact this
                  · cases hpt
              refine ⟨l, _, .inr ⟨pps, gg, ⟨n1, root_fit n4 hs2 n2 n3 (by omega) hN2 hroot2, n4, hs2, hh2⟩, by omega, n3, rfl⟩, hpg2, by omega, ?_, fun h _ => h⟩
              rw [d5]
              omega
  rcases h with ⟨rfl, rfl, rfl, rfl⟩ | ⟨ps, g', h, h7, h15, rfl⟩
  · refine ⟨[⟨0, [], 0, 0⟩], .inl ⟨rfl, rfl⟩, rfl, ⟨_, rfl, rfl, rfl, rfl, .nil, fun v => by simp, by simp⟩, ?_⟩
    refine main [⟨0, [], 0, 0⟩] [] [] rfl (by simp) (.inl rfl) (by intro x hx; cases hx) ?_ (PgR.refl _ _)
    intro o N' e
    simp only [climbM, withM] at e
    obtain ⟨rfl, rfl⟩ := Prod.mk.inj e
    refine ⟨[], by simp, by simp, by omega, ?_⟩
    rintro ps' e'
    obtain rfl := Option.some.inj e'
    refine ⟨[], ⟨by simp [chg], rfl⟩, PgR.refl _ _, by simp, by simp, ?_⟩
    simp [phiB, phi]
  · obtain ⟨ws, s, hw, hwl, hws, hslv, hsps, hz, hcl⟩ := climb_ok hN k h h7 h15
    refine ⟨ws, .inr hw, hwl, hz, ?_⟩
    refine main ws ps g' ?_ h15 (by have := h.fit.2.2; omega) (body_pages h.body) (fun o N' e => ?_) ?_
    · unfold lvOf
      cases ws with
      | nil => cases hwl
      | cons t r => simp at hws; simp [hws, hslv]
    · obtain ⟨M, e1, e2, e3, e4⟩ := hcl c [(k, v)] (by simp) hxk o N' e
      refine ⟨M, e1, e2, e3, fun ps' e5 => ?_⟩
      obtain ⟨g2, f1, f2, f3, f4, f5⟩ := e4 ps' e5
      refine ⟨g2, f1, f2, f3, f4, ?_⟩
      have := phi_node h.node (fit_good' h.fit).2 h.body
      have : [(k, v)].length = 1 := rfl
      omega
    · exact (PgR.refl N.length g').cons root

/-- The way down to what can be a root. -/
theorem low_ok {N : List Nd} (hN : N.length ≤ 511) : ∀ {l : Nat} {lv : Int} {lo hi p : Nat} {ps qs : Pairs} {g : List Nat}, SndL N false lv lo hi l p ps qs g → l ≤ 7 → ps.length ≤ 15 → hi ≤ topH →
    ∃ l' ps' g', l' ≤ l ∧ SndL N true 0 0 topH l' (lowM N l p) ps' qs g' ∧ ps'.length ≤ 15 ∧ List.Sublist (lowM N l p :: g') (p :: g) ∧ (0 < l' → l' = l → lowM N l p = p) := by
  intro l
  induction l with
  | zero =>
    intro lv lo hi p ps qs g h hl h15 hhi
    refine ⟨0, ps, g, Nat.le_refl _, ⟨h.node, root_fit h.body h.srt (fit_good' h.fit).2 h15 hl hN (.inl rfl), h.body, h.srt, fun q hq => Nat.le_trans (h.high q hq) hhi⟩, h15, .refl _, fun h => by omega⟩
  | succ l ih =>
    intro lv lo hi p ps qs g h hl h15 hhi
    have h0 := (fit_good' h.fit).2
    unfold lowM
    rw [h.node]
    dsimp only
    split
    · rename_i h2
      exact ⟨l + 1, ps, g, Nat.le_refl _, ⟨h.node, root_fit h.body h.srt h0 h15 hl hN (.inr h2), h.body, h.srt, fun q hq => Nat.le_trans (h.high q hq) hhi⟩, h15, .refl _, fun _ _ => rfl⟩
    · rename_i h2
      have h1 : ps.length = 1 := by omega
      obtain ⟨ps', q1, q2, q3, g1, g', g3, rfl, rfl, hk, k1, k3, hp15, _, _, _⟩ := h.kid hl hN 0 h0
      have hd : ps.drop (0 + 1) = [] := List.drop_eq_nil_iff.2 (by omega)
      rw [hd] at k3
      obtain ⟨rfl, rfl⟩ := k3
      obtain ⟨rfl, rfl⟩ : q1 = [] ∧ g1 = [] := by simpa [Kids] using k1
      simp only [List.nil_append, List.append_nil]
      have hho : highOf ps 0 hi = hi := by unfold highOf; rw [if_neg (by omega)]
      rw [hho] at hk
      obtain ⟨l', ps2, g2, r1, r2, r3, r4, _⟩ := ih hk (by omega) hp15 hhi
      exact ⟨l', ps2, g2, by omega, r2, r3, r4.trans (List.sublist_cons_self _ _), fun _ e => by omega⟩

theorem phi_sub {N : List Nd} {a b : List Nat} (h : List.Sublist a b) : phi N a ≤ phi N b := by
  induction h with
  | slnil => exact Nat.le_refl _
  | cons p _ ih => rw [phi_cons]; omega
  | cons_cons p _ ih => rw [phi_cons, phi_cons]; omega

/-- A lead to a kid that is all that a root has. -/
theorem kid_lead {N : List Nd} (hN : N.length ≤ 511) {l : Nat} {l1 qs : Pairs} {g : List Nat} (h : Kids (Snd N l) l1 qs g) (h1 : l1.length = 1) (hl : l ≤ 7) (hs : Srt qs) (hh : ∀ q ∈ qs, q.1 ≤ topH) :
    ∃ ps g', SndL N false (l : Int) (keyAt l1 0) topH l (valAt l1 0) ps qs g' ∧ ps.length ≤ 15 ∧ g = valAt l1 0 :: g' := by
  have hk := (h.pos (by omega)).2
  obtain ⟨ps, g', n1, n2, n3, n4, rfl⟩ := snd_iff.1 (kids_single h h1)
  obtain ⟨b1, b2⟩ := body_pos n4 n2
  refine ⟨ps, g', ⟨n1, ⟨body_good n4 hs n2 n3 hl hN, n2, rfl, ?_, ?_⟩, n4, hs, hh⟩, n3, rfl⟩
  · rw [← b2, hk]
  · obtain ⟨v, hv⟩ := keyAt_mem (show ps.length - 1 < ps.length by omega)
    obtain ⟨q, hq, e⟩ := body_key n4 _ hv
    have := hh q hq
    rw [e] at this
    exact this

/-- What is lowered. -/
def LowOk (N : List Nd) (lv : Nat) (l : Pairs) : Prop := 0 < lv → l.length = 1 → valAt l 0 ≤ 511 ∧ ∃ ps qs g, SndL N false ((lv - 1 : Nat) : Int) (keyAt l 0) (highOf l 0 topH) (lv - 1) (valAt l 0) ps qs g ∧ ps.length ≤ 15

/-- What Drop leaves. -/
theorem drop_ok {N : List Nd} (hN : N.length ≤ 511) {c root l k : Nat} {qs : Pairs} {g : List Nat} (hc : c ≤ 511) (h : TreeG N root l qs g) :
    ∃ ws, DescW N k root ws ∧ ws.length = l + 1 ∧ (∃ z, ws.getLast? = some z ∧ LastS N k qs z) ∧ (∀ l1 N1, climbM c ws [] N = (some l1, N1) → LowOk N1 (lvOf ws) l1) ∧ ∀ o N', dropM c ws N = (o, N') → ∃ M, N' = N ++ M ∧ M.length ≤ 2 * l + 1 ∧ N'.length ≤ max c N.length ∧
      ∀ r, o = some r → ∃ l' g', TreeG N' r l' (chg [] k qs) g' ∧ PgR N.length N'.length g g' ∧ l' ≤ l ∧ phi N' g' ≤ phi N g := by
  have hs2 : Srt (chg [] k qs) := srt_chg h.srt .nil (by intro p hp; cases hp)
  have hh2 := chg_le (k := k) (v := 0) (xs := []) h.le (by intro p hp; cases hp)
  rcases h with ⟨rfl, rfl, rfl, rfl⟩ | ⟨ps, g', h, h7, h15, rfl⟩
  · refine ⟨[⟨0, [], 0, 0⟩], .inl ⟨rfl, rfl⟩, rfl, ⟨_, rfl, rfl, rfl, rfl, .nil, fun v => by simp, by simp⟩, ?_⟩
    refine ⟨fun l1 N1 _ h0 => absurd h0 (by simp [lvOf]), ?_⟩
    intro o N' e
    simp only [dropM, climbM, withM, pileM] at e
    have : ¬ (0 < lvOf [⟨0, [], 0, 0⟩] ∧ ((([] : Pairs).take 0 ++ [] ++ ([] : Pairs).drop 0).length = 1)) := by simp
    rw [if_neg this, if_pos (by simp)] at e
    obtain ⟨rfl, rfl⟩ := Prod.mk.inj e
    refine ⟨[], by simp, by simp, by omega, ?_⟩
    intro r e
    obtain rfl := Option.some.inj e
    exact ⟨0, [], .inl ⟨rfl, by simp [chg], rfl, rfl⟩, PgR.refl _ _, Nat.le_refl _, Nat.le_refl _⟩
  · obtain ⟨ws, s, hw, hwl, hws, hslv, hsps, hz, hcl⟩ := climb_ok hN k h h7 h15
    have hlv : lvOf ws = l := by
      unfold lvOf
      cases ws with
      | nil => cases hwl
      | cons t r => simp at hws; simp [hws, hslv]
    refine ⟨ws, .inr hw, hwl, hz, ?_, ?_⟩
    · intro l1 N1 hc1 h0 h1
      rw [hlv] at h0 ⊢
      obtain ⟨M1, rfl, m1, m2, m3⟩ := hcl c [] (by simp) (by intro p hp; cases hp) (some l1) N1 hc1
      obtain ⟨ga, b1, b2, b3, b4, b5⟩ := m3 l1 rfl
      have hN1 : (N ++ M1).length ≤ 511 := by omega
      obtain ⟨l, rfl⟩ : ∃ l', l = l' + 1 := ⟨l - 1, by omega⟩
      obtain ⟨ps2, g2, k1, k2, rfl⟩ := kid_lead hN1 b1 h1 (by omega) hs2 hh2
      rw [Nat.add_sub_cancel, show highOf l1 0 topH = topH by unfold highOf; rw [if_neg (by omega)]]
      have hpg := nodeOf_le k1.node
      exact ⟨by omega, ps2, _, g2, k1, k2⟩
    intro o N' e
    unfold dropM at e
    cases hc1 : climbM c ws [] N with
    | mk o1 N1 =>
      rw [hc1] at e
      obtain ⟨M1, rfl, m1, m2, m3⟩ := hcl c [] (by simp) (by intro p hp; cases hp) o1 N1 hc1
      cases o1 with
      | none =>
        obtain ⟨rfl, rfl⟩ := Prod.mk.inj e
        exact ⟨M1, rfl, by omega, m2, by intro r h; cases h⟩
      | some l1 =>
        obtain ⟨ga, b1, b2, b3, b4, b5⟩ := m3 l1 rfl
        have hphi := phi_node h.node (fit_good' h.fit).2 h.body
        simp only [List.length_nil, Nat.add_zero] at b3 b5
        dsimp only at e
        rw [hlv] at e
        have hpg : PgR N.length (N ++ M1).length (root :: g') ga := b2.cons root
        have hN1 : (N ++ M1).length ≤ 511 := by omega
        split at e
        · rename_i hlow
          obtain ⟨rfl, rfl⟩ := Prod.mk.inj e
          obtain ⟨l, rfl⟩ : ∃ l', l = l' + 1 := ⟨l - 1, by omega⟩
          refine ⟨M1, rfl, by omega, m2, ?_⟩
          intro r e
          obtain rfl := Option.some.inj e
          obtain ⟨ps2, g2, k1, k2, rfl⟩ := kid_lead hN1 b1 hlow.2 (by omega) hs2 hh2
          obtain ⟨l', ps3, g3, r1, r2, r3, r4, _⟩ := low_ok hN1 k1 (by omega) k2 (Nat.le_refl _)
          rw [Nat.add_sub_cancel]
          refine ⟨l', _, .inr ⟨ps3, g3, r2, by omega, r3, rfl⟩, ?_, by omega, ?_⟩
          · refine hpg.trans (m := (N ++ M1).length) ⟨_, [], ?_, r4, .nil, by intro x hx; cases hx⟩ (by simp) (Nat.le_refl _)
            simp
          · have := phi_sub (N := N ++ M1) r4
            have e5 : phiB (N ++ M1) (l + 1) l1 (valAt l1 0 :: g2) = phi (N ++ M1) (valAt l1 0 :: g2) := by unfold phiB; rw [if_neg (by omega)]
            omega
        · rename_i hlow
          rcases Nat.eq_zero_or_pos l1.length with h0 | h0
          · unfold pileM at e
            rw [if_pos h0] at e
            obtain ⟨rfl, rfl⟩ := Prod.mk.inj e
            refine ⟨M1, rfl, by omega, m2, ?_⟩
            intro r e
            obtain rfl := Option.some.inj e
            have hnil : l1 = [] := List.length_eq_zero_iff.1 h0
            subst hnil
            have hq : chg [] k qs = [] ∧ ga = [] := by
              cases l with
              | zero => exact ⟨b1.1.symm, b1.2⟩
              | succ l => exact b1
            refine ⟨0, [], .inl ⟨rfl, hq.1, rfl, rfl⟩, ?_, by omega, by simp [phi]⟩
            rw [hq.2] at hpg
            exact hpg
          · obtain ⟨M3, rfl, r1, r2⟩ := pile_ok hc (l1.length + 1) l l1 _ ga _ 0 b1 hN1 h0 (by omega) (by omega) (by simp; omega) (by omega) hs2 hh2 o N' e
            have hM3 : M3.length ≤ 1 := by
              cases o with
              | none =>
                have hp1 : partsOf 15 l1.length = 1 := by unfold partsOf; omega
                unfold pileM at e
                rw [if_neg (by omega)] at e
                unfold nodesM at e
                rw [hp1] at e
                split at e
                · rename_i heq
                  split at heq
                  · cases heq
                  · rename_i hno
                    obtain ⟨_, e3⟩ := Prod.mk.inj e
                    obtain ⟨_, e2⟩ := Prod.mk.inj heq
                    have : (N ++ M1 ++ M3).length = (N ++ M1).length + (c - (N ++ M1).length) := by
                      rw [← e3, ← e2, List.length_append, nodesOf_length]
                    rw [List.length_append] at this
                    omega
                · rename_i heq
                  split at heq
                  · obtain ⟨e1, _⟩ := Prod.mk.inj heq
                    obtain rfl := Option.some.inj e1
                    rw [leadsOf_length] at e
                    simp at e
                  · cases heq
              | some r =>
                obtain ⟨_, _, _, _, _, t⟩ := r2 r rfl
                exact Nat.le_of_eq (t (by omega)).2.2
            refine ⟨M1 ++ M3, by simp, by simp; omega, by omega, ?_⟩
            intro r hr
            obtain ⟨lv', g2, s1, s2, s3, s4⟩ := r2 r hr
            obtain ⟨s5, s6, _⟩ := s4 (by omega)
            refine ⟨lv', g2, s2, hpg.trans s3 (by simp) (by simp), by omega, ?_⟩
            rw [s6]
            omega

/-- What stands at a key, by its leaf. -/
theorem last_has {N : List Nd} {k : Nat} {qs : Pairs} {s : Stp} (h : LastS N k qs s) : (s.fr = s.to → ∀ v, (k, v) ∉ qs) ∧ (s.fr ≠ s.to → s.fr < s.ps.length ∧ s.to = s.fr + 1 ∧ (k, valAt s.ps s.fr) ∈ qs) := by
  obtain ⟨h1, h2, h3, h4, h5, h6⟩ := h
  have hto := toOf_le h4 k
  constructor
  · intro e v hv
    have hv := (h5 v).1 hv
    have : hasK s.ps k = true := by
      unfold hasK
      rw [List.any_eq_true]
      exact ⟨_, hv, by simp⟩
    rw [h2, h3] at e
    unfold toOf at e
    rw [if_pos this] at e
    omega
  · intro e
    rw [h2, h3] at e ⊢
    have hk : hasK s.ps k = true := by
      cases hb : hasK s.ps k with
      | true => rfl
      | false => exfalso; apply e; unfold toOf; rw [hb]; rfl
    have ht : toOf s.ps k = belowK s.ps k + 1 := by unfold toOf; rw [if_pos hk]
    have hlt : belowK s.ps k < s.ps.length := by omega
    refine ⟨hlt, ht, (h5 _).2 ?_⟩
    -- the pair at belowK has the key
    unfold hasK at hk
    rw [List.any_eq_true] at hk
    obtain ⟨p, hp, e1⟩ := hk
    have e1 : p.1 = k := by simpa using e1
    obtain ⟨i, hi, rfl⟩ := List.getElem_of_mem hp
    have hb : belowK s.ps k = i := by
      refine below_at ((rises_srt _).2 h4) (Nat.le_of_lt hi) (fun j hj => ?_) (fun _ => ?_)
      · have := rises_lt ((rises_srt _).2 h4) hj hi
        rw [keyAt_get hi, e1] at this
        exact this
      · rw [keyAt_get hi, e1]
        exact Nat.le_refl _
    rw [hb, valAt_get hi, ← e1]
    exact hp

end Go.Proofs.Ytdbohcdjamhdjaa
/- Numbers of a loop over a row. Of no program. -/
set_option linter.unusedVariables false
namespace Go.Proofs.Ytdbohcdjamhdjaa
open Go.RowKit

theorem rg_idx (j n : Nat) (h : j < n) (hn : n ≤ 1000) : (j : Int) < (n : Int) ∧ (0 : Int) ≤ (j : Int) ∧ wrap64 ((j : Int) + 1) = ((j + 1 : Nat) : Int) ∧ ¬ ((n : Int) ≤ (j : Int)) := by
  refine ⟨by omega, by omega, by unfold wrap64; omega, by omega⟩
theorem rg_meas (j n : Nat) (h : j < n) : n - ((j : Int) + 1).toNat < n - ((j : Int).toNat) := by omega
theorem rg_succ (j : Nat) : (j : Int) + 1 = ((j + 1 : Nat) : Int) := by omega
theorem rg_ge {j n : Nat} (h : ¬ j < n) : ¬ ((j : Int) < (n : Int)) ∧ (n : Int) ≤ (j : Int) := by omega
theorem SndL.kidAt {N : List Nd} {root : Bool} {lv : Int} {lo hi l p : Nat} {ps qs : Pairs} {g : List Nat} (h : SndL N root lv lo hi (l + 1) p ps qs g) (hl : l + 1 ≤ 7) (hN : N.length ≤ 511) (i : Nat) (hi' : i < ps.length) {q1 q2 q3 : Pairs} {g2 g3 : List Nat} (e : qs = q1 ++ q2 ++ q3)
    (s1 : Snd N l (valAt ps i) q2 g2) (s2 : 0 < q2.length) (s3 : keyAt q2 0 = keyAt ps i) (k3 : Kids (Snd N l) (ps.drop (i + 1)) q3 g3) :
    ∃ ps' g', g2 = valAt ps i :: g' ∧ SndL N false (l : Int) (keyAt ps i) (highOf ps i hi) l (valAt ps i) ps' q2 g' ∧ ps'.length ≤ 15 := by
  obtain ⟨ps', g', n1, n2, n3, n4, rfl⟩ := snd_iff.1 s1
  have hs : Srt (q1 ++ q2 ++ q3) := by rw [← e]; exact h.srt
  obtain ⟨t1, t2, t3, t4, t5, t6⟩ := srt_le hs
  have hh : ∀ q ∈ q2, q.1 ≤ highOf ps i hi := by
    intro q hq
    unfold highOf
    split
    · rename_i hlt
      obtain ⟨r1, r2⟩ := k3.pos (by rw [List.length_drop]; omega)
      rw [keyAt_drop] at r2
      obtain ⟨v, hv⟩ := keyAt_mem r1
      have := t2 q hq _ hv
      rw [r2] at this
      omega
    · exact h.high q (by rw [e]; simp [hq])
  obtain ⟨b1, b2⟩ := body_pos n4 n2
  refine ⟨ps', g', rfl, ⟨n1, ⟨body_good n4 t5 n2 n3 (by omega) hN, n2, rfl, ?_, ?_⟩, n4, t5, hh⟩, n3⟩
  · rw [← b2]; exact s3
  · have hm : ps'.length - 1 < ps'.length := by omega
    obtain ⟨v, hv⟩ := keyAt_mem hm
    obtain ⟨q, hq, e⟩ := body_key n4 _ hv
    have := hh q hq
    rw [e] at this
    exact this

end Go.Proofs.Ytdbohcdjamhdjaa
/- slices.Index, slices.Contains at integers. -/
set_option linter.unusedVariables false
namespace Go.Proofs.Ytdbohcdjamhdjaa
open Go.RowKit

/-- Integers in memory. -/
structure IntsL (W : World) (b : Option Addr) (l : List Int) : Prop where
  len : l.length ≤ maxLen
  cells : 0 < l.length → ∃ bk off, b = some ⟨bk, off, none⟩ ∧ bk < W.heap.size ∧ ∀ i, i < l.length → W.cell? ⟨bk, off + i, none⟩ = some (.int .i64 (l.getD i 0))

/-- slices.Index at integers: whether a number is among them. -/
theorem iIndex8 (x : Int) (b : Option Addr) (cap : Nat) (l : List Int) (W : World) (hi : IntsL W b l) :
    Calls Try.prog 93 #[.slice b l.length cap, .int .i64 x] W fun e w' => (∃ i : Int, e = .returned (.int .i64 i) ∧ (0 ≤ i ↔ x ∈ l)) ∧ W = w' := by
  obtain ⟨n, hn⟩ : ∃ n, l.length = n := ⟨_, rfl⟩
  have hm : (n : Int) ≤ 9223372036854775807 := by have := hi.len; unfold maxLen at this; omega
  have H := Lib.hid hi
  have HN := Lib.hid hn
  rw [hn]
  clear hi hn
  go_enter Try.func93, Try.ntmps93
  go_wp2_with fail
  go_loopw [5, 8] (fun _ c wr => ∃ (j : Nat) (V : World), V = wr ∧ wr = W ∧ j ≤ n ∧ c = .int .i64 j ∧ Hid (∀ i, i < j → l.getD i 0 ≠ x)) (fun _ c _ => n - (RowKit.intOf c).toNat)
  case atStart => exact ⟨0, _, rfl, by trivial, Nat.zero_le _, rfl, Lib.hid fun i hi => absurd hi (by omega)⟩
  case round =>
    obtain ⟨j, V, rfl, rfl, hj, rfl, HJ⟩ := hrel
    have d0 : (0 : Int) ≤ (j : Int) := by omega
    by_cases hlt : j < n
    · have d1 : (j : Int) < (n : Int) := by omega
      have hjl : j < l.length := by rw [HN.out]; exact hlt
      obtain ⟨b, off, rfl, hb, hc⟩ := H.out.cells (by omega)
      have e1 := hc j hjl
      obtain ⟨y, hy⟩ : ∃ y, l.getD j 0 = y := ⟨_, rfl⟩
      rw [hy] at e1
      by_cases hxy : x = y
      · have hin : x ∈ l := by
          rw [hxy, ← hy, List.getD_eq_getElem?_getD, List.getElem?_eq_getElem hjl]
          exact List.getElem_mem hjl
        have HA := Lib.hid hin
        subst hxy
        clear hc hy HJ hjl hin
        go_wp2_with fail
        go_ret
        exact ⟨⟨_, rfl, fun _ => HA.out, fun _ => by omega⟩, rfl⟩
      · have HJ2 : Hid (∀ i, i < j + 1 → l.getD i 0 ≠ x) := Lib.hid fun i hi => by
          rcases Nat.lt_or_ge i j with h | h
          · exact HJ.out i h
          · obtain rfl : i = j := by omega
            rw [hy]; exact fun e => hxy e.symm
        clear hc hy HJ hjl
        go_wp2_with fail
        go_roundw
        case rel => exact ⟨j + 1, _, rfl, by trivial, by omega, by go_num, HJ2⟩
        case measure => simp [RowKit.intOf]; omega
    · have d1 : (n : Int) ≤ (j : Int) := by omega
      have hnot : x ∉ l := fun hx => by
        obtain ⟨i, hi, rfl⟩ := List.getElem_of_mem hx
        have := HJ.out i (by have := HN.out; omega)
        rw [List.getD_eq_getElem?_getD, List.getElem?_eq_getElem hi] at this
        exact this rfl
      have HA := Lib.hid hnot
      clear HJ hnot
      go_wp2_with fail
      go_ret
      exact ⟨⟨_, rfl, fun h => absurd h (by omega), fun h => absurd h HA.out⟩, rfl⟩

theorem iContains8 (x : Int) (b : Option Addr) (cap : Nat) (l : List Int) (W : World) (hi : IntsL W b l) :
    Calls Try.prog 79 #[.slice b l.length cap, .int .i64 x] W fun e w' => e = .returned (.bool (decide (x ∈ l))) ∧ W = w' := by
  have C := Lib.hid (iIndex8 x b cap l W hi)
  obtain ⟨n, hn⟩ : ∃ n, l.length = n := ⟨_, rfl⟩
  rw [hn] at C
  rw [hn]
  clear hi hn
  by_cases hx : x ∈ l
  · rw [decide_eq_true hx]
    have HX := Lib.hid hx
    clear hx
    go_enter Try.func79, Try.ntmps79
    go_wp2_with (go_at_call 93; refine C.out.mono ?_; rintro e w' ⟨⟨i, rfl, hi⟩, rfl⟩; have hi0 : (0 : Int) ≤ i := hi.2 HX.out; clear hi)
    go_ret
    exact ⟨rfl, rfl⟩
  · rw [decide_eq_false hx]
    have HX := Lib.hid hx
    clear hx
    go_enter Try.func79, Try.ntmps79
    go_wp2_with (go_at_call 93; refine C.out.mono ?_; rintro e w' ⟨⟨i, rfl, hi⟩, rfl⟩; have hi0 : i < (0 : Int) := Int.not_le.1 fun h => HX.out (hi.1 h); clear hi)
    go_ret
    refine ⟨?_, rfl⟩
    show Ending.returned (.bool (decide (0 ≤ i))) = _
    rw [decide_eq_false (by omega)]

end Go.Proofs.Ytdbohcdjamhdjaa
/- Package tree's survey in memory. -/
set_option linter.unusedVariables false
namespace Go.Proofs.Ytdbohcdjamhdjaa
open Go.RowKit

theorem infoInt8 : (Try.prog.info? 3).map (fun i => (i.zero, i.size, i.bytes)) = some (some (.int .i64 0), 1, 8) := by kernel_rfl
/-- A row of integers. -/
def cellsI (l : List Int) : List Value := l.map (.int .i64)
theorem rowIntsL {W : World} {B cap : Nat} {a : Option Addr} {l : List Int} (h : W.ownsRow B 3 1 (.slice a l.length cap) l.length (cellsI l)) (hm : l.length ≤ maxLen) : IntsL W a l := by
  refine ⟨hm, fun h0 => ?_⟩
  rcases h.2 with ⟨e, hx⟩ | ⟨g1, cap1, cur, e, hB, hg, h1, h2, h3, h4⟩
  · have : l = [] := by simpa [cellsI] using hx
    rw [this] at h0; simp at h0
  · simp only [Value.slice.injEq] at e
    obtain ⟨rfl, _, _⟩ := e
    have hlt := (rowS_lt h g1 rfl).2
    refine ⟨g1, 0, rfl, hlt, fun i hi => ?_⟩
    rw [Nat.mul_one] at h4
    have e1 : (cur.toList.take l.length)[i]? = (cellsI l)[i]? := by rw [h4]
    rw [List.getElem?_take_of_lt hi] at e1
    rw [Nat.zero_add]
    refine (cell_of_row _ _ i _ _ _ hg).trans ?_
    rw [← Array.getElem?_toList, e1]
    simp [cellsI, List.getElem?_eq_getElem hi, List.getD_eq_getElem?_getD]

/-- A walk over all of a tree, in memory. -/
structure SvAt (W : World) (S s B0 : Nat) (v : Value) (ms : List Int) : Prop where
  box : W.heap[S]? = some (.cells #[pgV s, v, .int .i64 0] 125 (0, 0))
  row : W.ownsRow B0 3 1 v ms.length (cellsI ms)
  lt : S < B0
  le : B0 ≤ W.heap.size

/-- What a page that is met leaves as it was. -/
def SdX (w : World) (S : Nat) (v : Value) (k : Nat) : Prop := k < w.heap.size ∧ k ≠ S ∧ v.ownBlock ≠ some k
theorem sd_kept {V w1 : World} {S m : Nat} {v u : Value} {o : Obj} (hg : (V.alloc o).grownBy w1 v.ownBlock) : KeptIn (SdX V S v) V (w1.setCell ⟨S, 1, none⟩ u) := by
  have h1 : KeptIn (SdX V S v) V (V.alloc o) := (KeptIn.refl _ V).alloc (fun _ h => h.1) _
  exact (h1.grown (fun k h => h.1) hg (fun g e h => h.2.2 e)).setCell (p := ⟨S, 1, none⟩) (fun h => h.2.1 rfl) _
theorem sd_box {V w1 : World} {S s m cap gg cap' x p B0 : Nat} {a : Option Addr} {ms : List Int} {root : Bool} {lv : Int} {lo hi : Nat} (h : SvAt V S s B0 (.slice a m cap) ms) (hb : BoxD x p root lv lo hi V) (hx : x ≠ S) {o : Obj} (hg : (V.alloc o).grownBy w1 (Value.slice a m cap).ownBlock) (u : Value) : BoxD x p root lv lo hi (w1.setCell ⟨S, 1, none⟩ u) :=
  hb.kept (sd_kept (m := m) (S := S) (v := .slice a m cap) hg) ⟨hb.lt, hx, rowS_ne h.row hb (by decide)⟩

theorem sd_sh {V w1 : World} {S s room m cap B0 : Nat} {a : Option Addr} {ms : List Int} {N : List Nd} {D : Nat → Prop} (h : SvAt V S s B0 (.slice a m cap) ms) (hsh : IsSh V s room N D) (hD : ∀ k, D k → k < S) {o : Obj} (hg : (V.alloc o).grownBy w1 (Value.slice a m cap).ownBlock) (u : Value) : IsSh (w1.setCell ⟨S, 1, none⟩ u) s room N D :=
  hsh.kept ((sd_kept (m := m) (S := S) (v := .slice a m cap) hg).mono fun k hk => ⟨hsh.lt k hk, Nat.ne_of_lt (hD k hk), fun e => by
    have := (rowS_lt h.row k e).1
    have := hD k hk
    have := h.lt
    omega⟩)
theorem sd_at {V w1 : World} {S s m cap gg cap' B0 : Nat} {p : Int} {a : Option Addr} {ms : List Int} (h : SvAt V S s B0 (.slice a m cap) ms) (hm : ms.length = m) {o : Obj} (hg : (V.alloc o).grownBy w1 (Value.slice a m cap).ownBlock)
    (hown : w1.ownsRow B0 3 1 (.slice (some ⟨gg, 0, none⟩) (m + 1) cap') (m + 1) (cellsI ms ++ [.int .i64 p])) :
    SvAt (w1.setCell ⟨S, 1, none⟩ (.slice (some ⟨gg, 0, none⟩) (m + 1) cap')) S s B0 (.slice (some ⟨gg, 0, none⟩) (m + 1) cap') (ms ++ [p]) := by
  have hSV : S < V.heap.size := Nat.lt_of_lt_of_le h.lt h.le
  have hS1 : w1.heap[S]? = V.heap[S]? := (hg.block _ (by simp; exact Nat.lt_succ_of_lt hSV) (fun e => rowS_ne h.row h.box (by decide) e.symm)).trans (Lib.alloc_old V _ _ hSV)
  have hk2 : KeptIn (· ≠ S) w1 (w1.setCell ⟨S, 1, none⟩ (.slice (some ⟨gg, 0, none⟩) (m + 1) cap')) := (KeptIn.refl _ w1).setCell (p := ⟨S, 1, none⟩) (by simp) _
  refine ⟨?_, ?_, h.lt, ?_⟩
  · exact (heap_setCell_same _ _ _ _ _ _ (hS1.trans h.box)).trans rfl
  · rw [List.length_append, hm]
    have : cellsI (ms ++ [p]) = cellsI ms ++ [.int .i64 p] := by simp [cellsI]
    rw [this]
    exact rowS_block hown fun g e => hk2.block g fun e2 => by
      have := (rowS_lt hown g e).1
      have := h.lt
      omega
  · have h1 := hg.size
    have h2 := hk2.size
    have h3 := h.le
    simp at h1
    omega

theorem IntsL.drewN {W : World} {b : Option Addr} {l : List Int} (h : IntsL W b l) (n : Nat) : IntsL (W.drewN n) b l := ⟨h.len, h.cells⟩
theorem iContQ {W : World} {b : Option Addr} {l : List Int} (h : IntsL W b l) {x : Int} {m cap : Nat} (hm : l.length = m) {r : Bool} (hr : decide (x ∈ l) = r) (n : Nat) : Calls Try.prog 79 #[.slice b m cap, .int .i64 x] (W.drewN n) fun e w' => e = .returned (.bool r) ∧ w' = W.drewN n := by
  have := iContains8 x b cap l (W.drewN n) (h.drewN n)
  rw [hm, hr] at this
  exact this.mono fun e w' ⟨h1, h2⟩ => ⟨h1, h2.symm⟩

end Go.Proofs.Ytdbohcdjamhdjaa
/- Package tree's survey: what a walk over a subtree leaves as it was; how the pages met grow. -/
set_option linter.unusedVariables false
namespace Go.Proofs.Ytdbohcdjamhdjaa
open Go.RowKit

/-- What a survey leaves as it was: all blocks that there were but its own and those where its pages stand. -/
def SdY (w : World) (S B0 k : Nat) : Prop := k < w.heap.size ∧ k ≠ S ∧ (k < B0 ∨ ∃ cs T fr, w.heap[k]? = some (.cells cs T fr) ∧ T ≠ 3)

theorem SdY.go {w w' : World} {S B0 k : Nat} (h : SdY w S B0 k) (hk : KeptIn (SdY w S B0) w w') : SdY w' S B0 k := by
  refine ⟨Nat.lt_of_lt_of_le h.1 hk.size, h.2.1, ?_⟩
  rcases h.2.2 with h1 | ⟨cs, T, fr, h1, h2⟩
  · exact .inl h1
  · exact .inr ⟨cs, T, fr, (hk.block k h).trans h1, h2⟩
theorem sdy_trans {a b c : World} {S B0 : Nat} (h : KeptIn (SdY a S B0) a b) (k : KeptIn (SdY b S B0) b c) : KeptIn (SdY a S B0) a c := h.trans (k.mono fun _ hk => hk.go h)
theorem sdy_old {a b : World} {S B0 : Nat} (h : KeptIn (· < a.heap.size) a b) : KeptIn (SdY a S B0) a b := h.mono fun _ hk => hk.1
theorem SvAt.old {W W' : World} {S s B0 : Nat} {v : Value} {ms : List Int} (h : SvAt W S s B0 v ms) (hk : KeptIn (· < W.heap.size) W W') : SvAt W' S s B0 v ms :=
  ⟨(hk.block S (Nat.lt_of_lt_of_le h.lt h.le)).trans h.box, rowS_block h.row fun g e => hk.block g (rowS_lt h.row g e).2, h.lt, Nat.le_trans h.le hk.size⟩
theorem sdx_y {V : World} {S s B0 k : Nat} {v : Value} {ms : List Int} (h : SvAt V S s B0 v ms) (hk : SdY V S B0 k) : SdX V S v k := by
  refine ⟨hk.1, hk.2.1, fun e => ?_⟩
  rcases hk.2.2 with h1 | ⟨cs, T, fr, h1, h2⟩
  · have := (rowS_lt h.row k e).1
    omega
  · exact rowS_ne h.row h1 h2 e
theorem sdy_lead {x p S s B0 : Nat} {v : Value} {ms : List Int} {root : Bool} {lv : Int} {lo hi : Nat} {V : World} (h : SvAt V S s B0 v ms) (hb : BoxD x p root lv lo hi V) : SdY V S B0 x :=
  ⟨hb.lt, fun e => by subst e; have := Eq.trans hb.symm h.box; simp at this, .inr ⟨_, _, _, hb, by decide⟩⟩
theorem sdy_leaf {x n cap S s B0 : Nat} {v : Value} {ms : List Int} {lv : Int} {a : Option Addr} {V : World} (h : SvAt V S s B0 v ms) (hb : BoxL x lv a n cap V) : SdY V S B0 x :=
  ⟨hb.lt, fun e => by subst e; have := Eq.trans hb.symm h.box; simp at this, .inr ⟨_, _, _, hb, by decide⟩⟩
theorem sdy_pairs {g S s B0 : Nat} {v : Value} {ms : List Int} {V : World} (h : SvAt V S s B0 v ms) (hb : TyP V g) : SdY V S B0 g := by
  obtain ⟨cs, fr, hb⟩ := hb
  exact ⟨(Array.getElem?_eq_some_iff.1 hb).1, fun e => by subst e; have := Eq.trans hb.symm h.box; simp at this, .inr ⟨_, _, _, hb, by decide⟩⟩
theorem sdy_sh {V V' : World} {s room S B0 : Nat} {N : List Nd} {D : Nat → Prop} {v : Value} {ms : List Int} (h : SvAt V S s B0 v ms) (hsh : IsSh V s room N D) (hD : ∀ k, D k → k < S) (hk : KeptIn (SdY V S B0) V V') : IsSh V' s room N D :=
  hsh.kept (hk.mono fun k hk => ⟨hsh.lt k hk, Nat.ne_of_lt (hD k hk), .inl (by have := hD k hk; have := h.lt; omega)⟩)

theorem row_weakenI {W : World} {B B' n : Nat} {v : Value} {xs : List Value} (h : W.ownsRow B 3 1 v n xs) (hB : B' ≤ B) : W.ownsRow B' 3 1 v n xs := by
  refine ⟨h.1, ?_⟩
  rcases h.2 with h1 | ⟨g, cap, cur, rfl, hg, r⟩
  · exact .inl h1
  · exact .inr ⟨g, cap, cur, rfl, by omega, r⟩
theorem row_sliceI {W : World} {B n : Nat} {v : Value} {xs : List Value} (h : W.ownsRow B 3 1 v n xs) : ∃ a cap, v = .slice a n cap := by
  rcases h.2 with ⟨rfl, rfl⟩ | ⟨g1, cap1, cur, rfl, _⟩
  · exact ⟨none, 0, rfl⟩
  · exact ⟨_, _, rfl⟩

/-- The pages of a subtree are met. -/
def SoP (w : World) (S s B0 : Nat) (ms : List Int) (e : Ending) (w' : World) : Prop := ∃ v, e = .returned (.bool true) ∧ SvAt w' S s B0 v ms ∧ KeptIn (SdY w S B0) w w'

abbrev ofP (g : List Nat) : List Int := g.map Int.ofNat
theorem ofP_append (a b : List Nat) : ofP (a ++ b) = ofP a ++ ofP b := List.map_append ..

/-- What stands at the loop over a node's kids. -/
structure SoF (w : World) (S s B0 x y p g n cg : Nat) (room : Nat) (N : List Nd) (D : Nat → Prop) (root : Bool) (lv : Int) (lo hi : Nat) (L : Int) (ps : Pairs) (v : Value) (ms : List Int) (V : World) : Prop where
  sv : SvAt V S s B0 v ms
  lead : BoxD x p root lv lo hi V
  leaf : BoxL y L (some ⟨g, 0, none⟩) n cg V
  isps : IsPs V (some ⟨g, 0, none⟩) ps
  ty : TyP V g
  sh : IsSh V s room N D
  dS : ∀ k, D k → k < S
  kept : KeptIn (SdY w S B0) w V
  len : ps.length = n
theorem SoF.go {w V V' : World} {S s B0 x y p g n cg room : Nat} {N : List Nd} {D : Nat → Prop} {root : Bool} {lv : Int} {lo hi : Nat} {L : Int} {ps : Pairs} {v v' : Value} {ms ms' : List Int} (h : SoF w S s B0 x y p g n cg room N D root lv lo hi L ps v ms V) (hk : KeptIn (SdY V S B0) V V') (hv : SvAt V' S s B0 v' ms') : SoF w S s B0 x y p g n cg room N D root lv lo hi L ps v' ms' V' :=
  ⟨hv, h.lead.kept hk (sdy_lead h.sv h.lead), h.leaf.kept hk (sdy_leaf h.sv h.leaf), psAt h.isps hk (fun p e => by cases e; exact sdy_pairs h.sv h.ty), by
    obtain ⟨cs, fr, hb⟩ := h.ty
    exact ⟨cs, fr, (hk.block g (sdy_pairs h.sv ⟨cs, fr, hb⟩)).trans hb⟩, sdy_sh h.sv h.sh h.dS hk, h.dS, sdy_trans h.kept hk, h.len⟩
theorem SoF.old {w V V' : World} {S s B0 x y p g n cg room : Nat} {N : List Nd} {D : Nat → Prop} {root : Bool} {lv : Int} {lo hi : Nat} {L : Int} {ps : Pairs} {v : Value} {ms : List Int} (h : SoF w S s B0 x y p g n cg room N D root lv lo hi L ps v ms V) (hk : KeptIn (· < V.heap.size) V V') : SoF w S s B0 x y p g n cg room N D root lv lo hi L ps v ms V' := h.go (sdy_old hk) (h.sv.old hk)

/-- A row of distinct numbers up to n. -/
theorem nodup_le : ∀ (n : Nat) (l : List Nat), l.Nodup → (∀ x ∈ l, 1 ≤ x ∧ x ≤ n) → l.length ≤ n := by
  intro n
  induction n with
  | zero =>
    intro l _ h
    cases l with
    | nil => exact Nat.le_refl _
    | cons x r => have := h x List.mem_cons_self; omega
  | succ n ih =>
    intro l hd h
    have h1 := ih (l.filter (· ≠ n + 1)) (hd.filter _) fun x hx => by
      obtain ⟨h2, h3⟩ := List.mem_filter.1 hx
      have := h x h2
      simp at h3
      omega
    have h2 : l.length ≤ (l.filter (· ≠ n + 1)).length + 1 := by
      have h3 : l.count (n + 1) ≤ 1 := List.nodup_iff_count.1 hd _
      have h4 : l.length = l.countP (fun x => decide (x ≠ n + 1)) + l.countP (fun x => decide ¬ decide (x ≠ n + 1) = true) := List.length_eq_countP_add_countP _
      have h5 : l.countP (fun x => decide ¬ decide (x ≠ n + 1) = true) = l.count (n + 1) := by
        rw [List.count_eq_countP]
        refine List.countP_congr fun x _ => ?_
        simp
      rw [← List.countP_eq_length_filter]
      omega
    omega

end Go.Proofs.Ytdbohcdjamhdjaa
/- Blocks of rows that grow. -/
set_option linter.unusedVariables false
namespace Go.Proofs.Ytdbohcdjamhdjaa
open Go.RowKit

theorem own_type {w : World} {B n s : Nat} {T : TypeId} {v : Value} {xs : List Value} (h : w.ownsRow B T s v n xs) {g : Nat} (e : v.ownBlock = some g) : ∃ cs fr, w.heap[g]? = some (.cells cs T fr) := by
  rcases h.2 with ⟨rfl, _⟩ | ⟨g', cap, cur, rfl, hg, hb, _⟩
  · cases e
  · simp only [Value.ownBlock, Option.some.injEq] at e
    subst e
    exact ⟨cur, _, hb⟩
theorem grow_kept {V w1 : World} {v : Value} {o : Obj} (hg : (V.alloc o).grownBy w1 v.ownBlock) : KeptIn (fun k => k < V.heap.size ∧ v.ownBlock ≠ some k) V w1 :=
  ((KeptIn.refl _ V).alloc (fun _ h => h.1) _).grown (fun k h => h.1) hg (fun g e h => h.2 e)

end Go.Proofs.Ytdbohcdjamhdjaa
/- TreeMap of layer 8: the reference's look at a tree, in memory. -/
set_option linter.unusedVariables false
namespace Go.Proofs.Ytdbohcdjamhdjaa
open Go.RowKit

/-- What a look has brought so far: the pages ms, the pairs qs. -/
structure LkAt (W : World) (T B0 : Nat) (pv qv : Value) (ms : List Int) (qs : Pairs) : Prop where
  box : W.heap[T]? = some (.cells #[pv, qv, .bool false] 78 (0, 0))
  prow : W.ownsRow B0 3 1 pv ms.length (cellsI ms)
  qrow : W.ownsRow B0 82 2 qv qs.length (cellsP qs)
  lt : T < B0
  le : B0 ≤ W.heap.size

/-- What a look leaves as it was: all blocks that there were but its own and those where its rows stand. -/
def LkY (w : World) (T B0 k : Nat) : Prop := k < w.heap.size ∧ k ≠ T ∧ (k < B0 ∨ ∃ cs t fr, w.heap[k]? = some (.cells cs t fr) ∧ t ≠ 3 ∧ t ≠ 82)

theorem LkY.go {w w' : World} {T B0 k : Nat} (h : LkY w T B0 k) (hk : KeptIn (LkY w T B0) w w') : LkY w' T B0 k := by
  refine ⟨Nat.lt_of_lt_of_le h.1 hk.size, h.2.1, ?_⟩
  rcases h.2.2 with h1 | ⟨cs, t, fr, h1, h2⟩
  · exact .inl h1
  · exact .inr ⟨cs, t, fr, (hk.block k h).trans h1, h2⟩
theorem lky_trans {a b c : World} {T B0 : Nat} (h : KeptIn (LkY a T B0) a b) (k : KeptIn (LkY b T B0) b c) : KeptIn (LkY a T B0) a c := h.trans (k.mono fun _ hk => hk.go h)
theorem lky_old {a b : World} {T B0 : Nat} (h : KeptIn (· < a.heap.size) a b) : KeptIn (LkY a T B0) a b := h.mono fun _ hk => hk.1
theorem LkAt.old {W W' : World} {T B0 : Nat} {pv qv : Value} {ms : List Int} {qs : Pairs} (h : LkAt W T B0 pv qv ms qs) (hk : KeptIn (· < W.heap.size) W W') : LkAt W' T B0 pv qv ms qs :=
  ⟨(hk.block T (Nat.lt_of_lt_of_le h.lt h.le)).trans h.box, rowS_block h.prow fun g e => hk.block g (rowS_lt h.prow g e).2, rowS_block h.qrow fun g e => hk.block g (rowS_lt h.qrow g e).2, h.lt, Nat.le_trans h.le hk.size⟩
theorem lk_sh {V V' : World} {s room T B0 : Nat} {N : List Nd} {D : Nat → Prop} {pv qv : Value} {ms : List Int} {qs : Pairs} (h : LkAt V T B0 pv qv ms qs) (hsh : IsSh V s room N D) (hD : ∀ k, D k → k < T) (hk : KeptIn (LkY V T B0) V V') : IsSh V' s room N D :=
  hsh.kept (hk.mono fun k hk => ⟨hsh.lt k hk, Nat.ne_of_lt (hD k hk), .inl (by have := hD k hk; have := h.lt; omega)⟩)
theorem lky_leaf {x n cap T B0 : Nat} {pv qv : Value} {ms : List Int} {qs : Pairs} {lv : Int} {a : Option Addr} {V : World} (h : LkAt V T B0 pv qv ms qs) (hb : BoxL x lv a n cap V) : LkY V T B0 x :=
  ⟨hb.lt, fun e => by subst e; have := Eq.trans hb.symm h.box; simp at this, .inr ⟨_, _, _, hb, by decide, by decide⟩⟩

theorem LkAt.c0 {W : World} {T B0 : Nat} {pv qv : Value} {ms : List Int} {qs : Pairs} (h : LkAt W T B0 pv qv ms qs) : W.cell? ⟨T, 0, none⟩ = some pv := (cell_of_row _ _ 0 _ _ _ h.box).trans rfl
theorem LkAt.c1 {W : World} {T B0 : Nat} {pv qv : Value} {ms : List Int} {qs : Pairs} (h : LkAt W T B0 pv qv ms qs) : W.cell? ⟨T, 1, none⟩ = some qv := (cell_of_row _ _ 1 _ _ _ h.box).trans rfl
theorem LkAt.c2 {W : World} {T B0 : Nat} {pv qv : Value} {ms : List Int} {qs : Pairs} (h : LkAt W T B0 pv qv ms qs) : W.cell? ⟨T, 2, none⟩ = some (.bool false) := (cell_of_row _ _ 2 _ _ _ h.box).trans rfl
theorem LkAt.fr {W : World} {T B0 : Nat} {pv qv : Value} {ms : List Int} {qs : Pairs} (h : LkAt W T B0 pv qv ms qs) (i : Nat) : W.frozen? ⟨T, i, none⟩ = false := by
  simp [World.frozen?, h.box]

/-- A look begins. -/
theorem LkAt.start (w : World) : LkAt (w.alloc (.cells #[.slice none 0 0, .slice none 0 0, .bool false] 78)) w.heap.size (w.heap.size + 1) (.slice none 0 0) (.slice none 0 0) [] [] :=
  ⟨heap_alloc_new w _, World.ownsRow_nil _ _ _ _, World.ownsRow_nil _ _ _ _, Nat.lt_succ_self _, by simp⟩

/-- The row that grows is v's, the box's cell i turns. -/
theorem lk_kept {V w1 : World} {T i : Nat} {v u : Value} {o : Obj} (hg : (V.alloc o).grownBy w1 v.ownBlock) : KeptIn (SdX V T v) V (w1.setCell ⟨T, i, none⟩ u) :=
  ((grow_kept hg).mono (fun k h => ⟨h.1, h.2.2⟩)).setCell (p := ⟨T, i, none⟩) (fun h => h.2.1 rfl) _
theorem sdx_p {V : World} {T B0 k : Nat} {pv qv : Value} {ms : List Int} {qs : Pairs} (h : LkAt V T B0 pv qv ms qs) (hk : LkY V T B0 k) : SdX V T pv k := by
  refine ⟨hk.1, hk.2.1, fun e => ?_⟩
  rcases hk.2.2 with h1 | ⟨cs, t, fr, h1, h2⟩
  · have := (rowS_lt h.prow k e).1
    omega
  · exact rowS_ne h.prow h1 h2.1 e
theorem sdx_q {V : World} {T B0 k : Nat} {pv qv : Value} {ms : List Int} {qs : Pairs} (h : LkAt V T B0 pv qv ms qs) (hk : LkY V T B0 k) : SdX V T qv k := by
  refine ⟨hk.1, hk.2.1, fun e => ?_⟩
  rcases hk.2.2 with h1 | ⟨cs, t, fr, h1, h2⟩
  · have := (rowS_lt h.qrow k e).1
    omega
  · exact rowS_ne h.qrow h1 h2.2 e

theorem lk_page {V w1 : World} {T B0 m : Nat} {p : Int} {pv qv v' : Value} {ms : List Int} {qs : Pairs} {o : Obj} (h : LkAt V T B0 pv qv ms qs) (hm : ms.length = m) (hg : (V.alloc o).grownBy w1 pv.ownBlock)
    (hown : w1.ownsRow B0 3 1 v' (m + 1) (cellsI ms ++ [.int .i64 p])) :
    (w1.cell? ⟨T, 0, none⟩ = some pv ∧ w1.frozen? ⟨T, 0, none⟩ = false) ∧ LkAt (w1.setCell ⟨T, 0, none⟩ v') T B0 v' qv (ms ++ [p]) qs ∧ KeptIn (LkY V T B0) V (w1.setCell ⟨T, 0, none⟩ v') := by
  have hTV : T < V.heap.size := Nat.lt_of_lt_of_le h.lt h.le
  have hk1 := grow_kept hg
  have hT1 : w1.heap[T]? = V.heap[T]? := hk1.block T ⟨hTV, rowS_ne h.prow h.box (by decide)⟩
  have hb1 := hT1.trans h.box
  have hk2 : KeptIn (· ≠ T) w1 (w1.setCell ⟨T, 0, none⟩ v') := (KeptIn.refl _ w1).setCell (p := ⟨T, 0, none⟩) (by simp) _
  have hk := lk_kept (T := T) (i := 0) (u := v') hg
  refine ⟨⟨(cell_of_row _ _ 0 _ _ _ hb1).trans rfl, by simp [World.frozen?, hb1]⟩, ⟨?_, ?_, ?_, h.lt, Nat.le_trans h.le hk.size⟩, hk.mono fun k hk => sdx_p h hk⟩
  · exact (heap_setCell_same _ _ _ _ _ _ hb1).trans rfl
  · rw [List.length_append, hm]
    have : cellsI (ms ++ [p]) = cellsI ms ++ [.int .i64 p] := by simp [cellsI]
    rw [this]
    exact rowS_block hown fun g e => hk2.block g fun e2 => by
      have := (rowS_lt hown g e).1
      have := h.lt
      omega
  · refine rowS_block h.qrow fun g e => hk.block g ⟨(rowS_lt h.qrow g e).2, fun e2 => ?_, ?_⟩
    · have := (rowS_lt h.qrow g e).1
      have := h.lt
      omega
    · obtain ⟨cs, fr, ht⟩ := own_type h.qrow e
      exact rowS_ne h.prow ht (by decide)

theorem lk_pair {V w1 : World} {T B0 n k x : Nat} {pv qv v' : Value} {ms : List Int} {qs : Pairs} {o : Obj} (h : LkAt V T B0 pv qv ms qs) (hn : qs.length = n) (hg : (V.alloc o).grownBy w1 qv.ownBlock)
    (hown : w1.ownsRow B0 82 2 v' (n + 1) (cellsP qs ++ [.int .u64 (k : Int), .int .u64 (x : Int)])) :
    (w1.cell? ⟨T, 1, none⟩ = some qv ∧ w1.frozen? ⟨T, 1, none⟩ = false) ∧ LkAt (w1.setCell ⟨T, 1, none⟩ v') T B0 pv v' ms (qs ++ [(k, x)]) ∧ KeptIn (LkY V T B0) V (w1.setCell ⟨T, 1, none⟩ v') := by
  have hTV : T < V.heap.size := Nat.lt_of_lt_of_le h.lt h.le
  have hk1 := grow_kept hg
  have hT1 : w1.heap[T]? = V.heap[T]? := hk1.block T ⟨hTV, rowS_ne h.qrow h.box (by decide)⟩
  have hb1 := hT1.trans h.box
  have hk2 : KeptIn (· ≠ T) w1 (w1.setCell ⟨T, 1, none⟩ v') := (KeptIn.refl _ w1).setCell (p := ⟨T, 1, none⟩) (by simp) _
  have hk := lk_kept (T := T) (i := 1) (u := v') hg
  refine ⟨⟨(cell_of_row _ _ 1 _ _ _ hb1).trans rfl, by simp [World.frozen?, hb1]⟩, ⟨?_, ?_, ?_, h.lt, Nat.le_trans h.le hk.size⟩, hk.mono fun k hk => sdx_q h hk⟩
  · exact (heap_setCell_same _ _ _ _ _ _ hb1).trans rfl
  · refine rowS_block h.prow fun g e => hk.block g ⟨(rowS_lt h.prow g e).2, fun e2 => ?_, ?_⟩
    · have := (rowS_lt h.prow g e).1
      have := h.lt
      omega
    · obtain ⟨cs, fr, ht⟩ := own_type h.prow e
      exact rowS_ne h.qrow ht (by decide)
  · rw [List.length_append, hn, cellsP_append]
    exact rowS_block hown fun g e => hk2.block g fun e2 => by
      have := (rowS_lt hown g e).1
      have := h.lt
      omega

end Go.Proofs.Ytdbohcdjamhdjaa
