import Derived.Test.YtdbohcdjamhdjaaCh8W
/- slices.Backward at steps: what an iterator over a way gives. -/
set_option linter.unusedVariables false
namespace Go.Proofs.Ytdbohcdjamhdjaa
open Go.RowKit Go.Shelf
attribute [local go_sem] Oper.semAt_some

/-- A step's place. -/
abbrev StpN (n : Nat) := { i : Nat // i < n }
/-- The last ones first. -/
def backJ (n k : Nat) : List (StpN n) := (List.range k).filterMap fun j => if h : n - 1 - j < n then some ⟨n - 1 - j, h⟩ else none
theorem backJ_succ {n k : Nat} (h : n - 1 - k < n) : backJ n (k + 1) = backJ n k ++ [⟨n - 1 - k, h⟩] := by
  simp [backJ, List.range_succ, h]
theorem backJ_length {n : Nat} : ∀ k, k ≤ n → (backJ n k).length = k := by
  intro k
  induction k with
  | zero => intro _; rfl
  | succ k ih =>
    intro h
    rw [backJ_succ (by omega), List.length_append, ih (by omega)]
    rfl

/-- Steps in memory, at a block. -/
structure StB (W : World) (g : Nat) (ws : List Stp) (A : Nat → Option Addr) (C : Nat → Nat) : Prop where
  lt : g < W.heap.size
  cells : ∀ i (h : i < ws.length), W.cell? ⟨g, i * 4, none⟩ = some (.int .i64 (ws[i].lv : Int)) ∧ W.cell? ⟨g, i * 4 + 1, none⟩ = some (.slice (A i) ws[i].ps.length (C i)) ∧ W.cell? ⟨g, i * 4 + 2, none⟩ = some (.int .i64 (ws[i].fr : Int)) ∧ W.cell? ⟨g, i * 4 + 3, none⟩ = some (.int .i64 (ws[i].to : Int))
theorem StB.kept {W W' : World} {X : Nat → Prop} {g : Nat} {ws : List Stp} {A : Nat → Option Addr} {C : Nat → Nat} (h : StB W g ws A C) (hk : KeptIn X W W') (hX : X g) : StB W' g ws A C :=
  ⟨Nat.lt_of_lt_of_le h.lt hk.size, fun i hi => by
    obtain ⟨h1, h2, h3, h4⟩ := h.cells i hi
    have hb := hk.block g hX
    exact ⟨(World.cell?_of_block (a := ⟨g, i * 4, none⟩) hb).trans h1, (World.cell?_of_block (a := ⟨g, i * 4 + 1, none⟩) hb).trans h2, (World.cell?_of_block (a := ⟨g, i * 4 + 2, none⟩) hb).trans h3, (World.cell?_of_block (a := ⟨g, i * 4 + 3, none⟩) hb).trans h4⟩⟩

theorem StB.old' {W W' : World} {g : Nat} {ws : List Stp} {A : Nat → Option Addr} {C : Nat → Nat} (h : StB W g ws A C) (hk : KeptIn (· < W.heap.size) W W') : StB W' g ws A C := h.kept hk h.lt
/-- A step that comes, as values. -/
def encS (ws : List Stp) (A : Nat → Option Addr) (C : Nat → Nat) (n : Nat) (hn : n ≤ ws.length) (x : StpN n) : Array Value :=
  #[.int .i64 (x.1 : Int), .agg #[.int .i64 ((ws[x.1]'(Nat.lt_of_lt_of_le x.2 hn)).lv : Int), .slice (A x.1) (ws[x.1]'(Nat.lt_of_lt_of_le x.2 hn)).ps.length (C x.1), .int .i64 ((ws[x.1]'(Nat.lt_of_lt_of_le x.2 hn)).fr : Int), .int .i64 ((ws[x.1]'(Nat.lt_of_lt_of_le x.2 hn)).to : Int)]]

set_option maxRecDepth 100000 in
set_option maxHeartbeats 2000000 in
theorem sBack1 (m : Nat) (hm1 : 1 ≤ m) (l Bs g cap n : Nat) (ws : List Stp) (A : Nat → Option Addr) (C : Nat → Nat) (hn : n ≤ ws.length) (hl : ws.length ≤ 1000) (X : Nat → Prop) (hXs : X Bs) (hXg : X g)
    (J Jx : List (StpN n) → World → Prop) (W : World)
    (hY : ∀ pre x W, J pre W → pre.length < n → YieldAt Fence.wide (m - 1) Try.prog l (encS ws A C n hn x) W fun e W' =>
      (e = .returned (.bool true) ∧ J (pre ++ [x]) W' ∧ KeptIn X W W') ∨ (e = .returned (.bool false) ∧ Jx (pre ++ [x]) W'))
    (hBs : W.cell? ⟨Bs, 0, none⟩ = some (.slice (some ⟨g, 0, none⟩) n cap)) (hB : StB W g ws A C) (h0 : J [] W) :
    CallsIn Fence.wide m Try.prog 75 #[.func (.yield l) #[] #[], .pointer (some ⟨Bs, 0, none⟩)] W fun e W' => (∃ v, e = .returned v) ∧
      ((∃ ys, ys = backJ n n ∧ J ys W') ∨ (∃ pre, (∃ k, k < n ∧ pre = backJ n (k + 1)) ∧ Jx pre W')) := by
  refine callsIn_of_wp Try.func75 rfl trivial ?_ rfl
  simp only [Try.ntmps75, List.size_toArray, List.length_cons, List.length_nil, Nat.reduceAdd, Nat.reduceSub, Array.replicate_succ, Array.replicate_zero, List.push_toArray, List.append_toArray, List.nil_append, List.cons_append]
  have HY := Lib.hid hY
  have HB := Lib.hid hB
  have HL := Lib.hid hl
  clear hY hB hl
  have hlen : (n : Int) ≤ 9223372036854775807 := by have := HL.out; omega
  have hmm : wrap64 ((n : Int) - 1) = (n : Int) - 1 := by have := HL.out; unfold wrap64; omega
  gi_wp2
  gi_loopw [3] (fun i wr => ∃ k : Nat, k ≤ n ∧ i = .int .i64 ((n : Int) - 1 - (k : Int)) ∧ J (backJ n k) wr ∧ KeptIn X W wr) (fun i _ => (intOf i + 1).toNat)
  case atStart => exact ⟨0, Nat.zero_le _, by simp, h0, KeptIn.refl _ _⟩
  case round =>
    obtain ⟨k, hk, rfl, hJs, hnx⟩ := hrel
    have hB' : wr.cell? ⟨Bs, 0, none⟩ = some (.slice (some ⟨g, 0, none⟩) n cap) := (World.cell?_of_block (a := ⟨Bs, 0, none⟩) (hnx.block Bs hXs)).trans hBs
    by_cases hlt : k < n
    · have hil : n - 1 - k < n := by omega
      have hsn := backJ_succ hil
      obtain ⟨i, hi⟩ : ∃ i, n - 1 - k = i := ⟨_, rfl⟩
      have hii : (n : Int) - 1 - (k : Int) = (i : Int) := by omega
      rw [hii]
      have i0 : (0 : Int) ≤ (i : Int) := by omega
      have i1 : (i : Int) < (n : Int) := by omega
      obtain ⟨fn, tmps, assign, body, hy, hR⟩ := HY.out _ ⟨n - 1 - k, hil⟩ wr hJs (by rw [backJ_length k hk]; exact hlt)
      unfold encS at hy
      dsimp only at hy
      rw [← hsn] at hR
      obtain ⟨e1, e2, e3, e4⟩ := (HB.out.kept hnx hXg).cells (n - 1 - k) (by omega)
      have hw : wrap64 ((i : Int) - 1) = (i : Int) - 1 := by have := HL.out; unfold wrap64; omega
      generalize ws[n - 1 - k] = st at hy e1 e2 e3 e4
      rw [hi] at hy e1 e2 e3 e4
      have HR := Lib.hid hR
      clear hR hsn hil hi
      gi_wp2
      refine HR.out.mono ?_
      rintro e W3 (⟨rfl, hJ3, hk3⟩ | ⟨rfl, hJx3⟩)
      · have HJ3 := Lib.hid (And.intro hJ3 hk3)
        clear hJ3 hk3
        gi_wp2
        go_roundw
        case rel => exact ⟨k + 1, by omega, by first | (simp; done) | (simp; omega), HJ3.out.1, hnx.trans HJ3.out.2⟩
        case measure => simp [intOf] <;> omega
      · gi_wp2
        refine bodyPost_ret (results_none rfl _ _ _) rfl ?_
        exact ⟨⟨_, rfl⟩, .inr ⟨_, ⟨k, hlt, rfl⟩, hJx3⟩⟩
    · obtain rfl : k = n := by omega
      have hii : (k : Int) - 1 - (k : Int) = -1 := by omega
      rw [hii]
      gi_wp2
      go_end0
      exact ⟨⟨_, rfl⟩, .inl ⟨_, rfl, hJs⟩⟩

set_option maxHeartbeats 1000000 in
theorem sBack (m : Nat) (a : Option Addr) (len cap : Nat) (w : World) :
    CallsIn Fence.wide m Try.prog 55 #[.slice a len cap] w fun e w' => e = .returned (.func (.func 75) #[] #[.pointer (some ⟨w.heap.size, 0, none⟩)]) ∧ w' = w.alloc (.cells #[.slice a len cap] 94) := by
  refine callsIn_of_wp Try.func55 rfl trivial ?_ rfl
  simp only [Try.ntmps55, List.size_toArray, List.length_cons, List.length_nil, Nat.reduceAdd, Nat.reduceSub, Array.replicate_succ, Array.replicate_zero, List.push_toArray, List.append_toArray, List.nil_append, List.cons_append]
  gi_wp2
  go_ret
  exact ⟨rfl, rfl⟩

theorem sBack_stops (m : Nat) (hm1 : 1 ≤ m) (Bs g cap n : Nat) (ws : List Stp) (A : Nat → Option Addr) (C : Nat → Nat) (hn : n ≤ ws.length) (hl : ws.length ≤ 1000) (X : Nat → Prop) (hXs : X Bs) (hXg : X g)
    (w : World) (hBs : w.heap[Bs]? = some (.cells #[.slice (some ⟨g, 0, none⟩) n cap] 94 (0, 0))) (hB : StB w g ws A C) :
    SeqStopsK Fence.wide m Try.prog 75 #[.pointer (some ⟨Bs, 0, none⟩)] (encS ws A C n hn) (KeptIn X) (fun ys => ys = backJ n n) (fun pre => ∃ k, k < n ∧ pre = backJ n (k + 1)) n w := fun l J Jx W hW _ _ hY h0 => by
  have h1 := (hW.block Bs (Array.getElem?_eq_some_iff.1 hBs).1).trans hBs
  exact sBack1 m hm1 l Bs g cap n ws A C hn hl X hXs hXg J Jx W hY (by simp [World.cell?, h1]) (hB.kept (X := (· < w.heap.size)) ⟨hW.os, hW.tape, hW.output, hW.size, hW.block⟩ hB.lt) h0

end Go.Proofs.Ytdbohcdjamhdjaa
