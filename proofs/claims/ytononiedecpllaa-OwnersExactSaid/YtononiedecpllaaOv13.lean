/- Owners: a book between a law's deeds; awake of layer 13. -/
import Derived.Test.YtononiedecpllaaOt13
set_option linter.unusedVariables false
namespace Go.Proofs.Ytononiedecpllaa
open Go.RowKit Go.Maps

/-- A book that a law has made behind w1; the blocks of X are none of it. -/
structure Bo (w1 : World) (b : Nat) (f h : Int → List Ow) (X : Nat → Prop) (W : World) : Prop where
  ex : ∃ D, BkA w1.heap.size b f h D W ∧ ∀ k, X k → ¬ D k ∧ k < W.heap.size
  kept : KeptIn (· < w1.heap.size) w1 W

section
variable {w1 : World} {b : Nat} {f h : Int → List Ow} {X : Nat → Prop} {W W' : World}
theorem Bo.old (H : Bo w1 b f h X W) (hk : KeptIn (· < W.heap.size) W W') : Bo w1 b f h X W' := by
  obtain ⟨D, hb, hX⟩ := H.ex
  exact ⟨⟨D, hb.old hk, fun k hk' => ⟨(hX k hk').1, Nat.lt_of_lt_of_le (hX k hk').2 hk.size⟩⟩, H.kept.trans (hk.mono fun k h => Nat.lt_of_lt_of_le h H.kept.size)⟩
/-- A block that was laid since is none of it. -/
theorem Bo.more (H : Bo w1 b f h X W) (hk : KeptIn (· < W.heap.size) W W') (X' : Nat → Prop) (hX' : ∀ k, X' k → X k ∨ (W.heap.size ≤ k ∧ k < W'.heap.size)) : Bo w1 b f h X' W' := by
  obtain ⟨D, hb, hX⟩ := H.ex
  refine ⟨⟨D, hb.old hk, fun k hk' => ?_⟩, H.kept.trans (hk.mono fun k h => Nat.lt_of_lt_of_le h H.kept.size)⟩
  rcases hX' k hk' with h1 | h1
  · exact ⟨(hX k h1).1, Nat.lt_of_lt_of_le (hX k h1).2 hk.size⟩
  · exact ⟨fun hd => by have := (hb.lt k hd).2; omega, h1.2⟩
/-- A store to a block of X. -/
theorem Bo.set (H : Bo w1 b f h X W) (hk : KeptIn (fun k => ¬ X k) W W') (hx : ∀ k, X k → w1.heap.size ≤ k) : Bo w1 b f h X W' := by
  obtain ⟨D, hb, hX⟩ := H.ex
  exact ⟨⟨D, hb.kept hk fun k hd _ hx' => (hX k hx').1 hd, fun k hk' => ⟨(hX k hk').1, Nat.lt_of_lt_of_le (hX k hk').2 hk.size⟩⟩, H.kept.trans (hk.mono fun k h hx' => by have := hx k hx'; omega)⟩
theorem Bo.weak (H : Bo w1 b f h X W) (X' : Nat → Prop) (hX' : ∀ k, X' k → X k) : Bo w1 b f h X' W := H.more (KeptIn.refl _ W) X' fun k hk => .inl (hX' k hk)

/-- What a deed leaves. -/
def DoS (w1 : World) (b : Nat) (f h : Int → List Ow) (X : Nat → Prop) (W : World) (v : Value) (e : Ending) (W' : World) : Prop :=
  e = .returned v ∧ Bo w1 b f h X W' ∧ KeptIn X W W'
theorem Bo.did {f' h' : Int → List Ow} {D : Nat → Prop} {v : Value} {e : Ending} (hb : BkA w1.heap.size b f h D W) (hX : ∀ k, X k → ¬ D k ∧ k < W.heap.size) (hk : KeptIn (· < w1.heap.size) w1 W) (hd : DeedS w1.heap.size b f' h' D W v e W') : DoS w1 b f' h' X W v e W' := by
  obtain ⟨rfl, D', hb', hw⟩ := hd
  refine ⟨rfl, ⟨⟨D', hb', fun k hk' => ⟨fun hd => ?_, Nat.lt_of_lt_of_le (hX k hk').2 hw.kept.size⟩⟩, hk.trans (hw.kept.mono fun k h => ⟨Nat.lt_of_lt_of_le h hk.size, fun hd => by have := (hb.lt k hd).1; omega⟩)⟩, hw.kept.mono fun k hk' => ⟨(hX k hk').2, (hX k hk').1⟩⟩
  rcases hw.new k hd with h1 | h1
  · exact (hX k hk').1 h1
  · have := (hX k hk').2
    omega

theorem Bo.add (H : Bo w1 b f h X W) (c : Int) (hc : (Lit.int .i64 c).wf = true) (o : Ow) (hl : (f c).length ≤ 2000) :
    Calls Try.prog 8 #[.pointer (some ⟨b, 0, none⟩), .int .i64 c, ownV o] W (DoS w1 b (addF f c o) h X W (.int .i64 (addE f c o))) := by
  obtain ⟨D, hb, hX⟩ := H.ex
  obtain ⟨bn, bw, N, M, hB⟩ := hb
  exact (owAdd hB c hc o hl).mono fun e V hd => Bo.did ⟨bn, bw, N, M, hB⟩ hX H.kept hd
theorem Bo.remove (H : Bo w1 b f h X W) (c : Int) (hc : (Lit.int .i64 c).wf = true) (o : Ow) (hl : (f c).length ≤ 2000) :
    Calls Try.prog 11 #[.pointer (some ⟨b, 0, none⟩), .int .i64 c, ownV o] W (DoS w1 b (remF f c o) h X W (.tuple #[.bool (remE f c o).1, .int .i64 (remE f c o).2])) := by
  obtain ⟨D, hb, hX⟩ := H.ex
  obtain ⟨bn, bw, N, M, hB⟩ := hb
  exact (owRemove hB c hc o hl).mono fun e V hd => Bo.did ⟨bn, bw, N, M, hB⟩ hX H.kept hd
theorem Bo.commit (H : Bo w1 b f h X W) : Calls Try.prog 14 #[.pointer (some ⟨b, 0, none⟩)] W (DoS w1 b f f X W (.tuple #[])) := by
  obtain ⟨D, hb, hX⟩ := H.ex
  obtain ⟨bn, bw, N, M, hB⟩ := hb
  exact (owCommit hB).mono fun e V hd => Bo.did ⟨bn, bw, N, M, hB⟩ hX H.kept hd
theorem Bo.was (H : Bo w1 b f h X W) (c : Int) (hc : (Lit.int .i64 c).wf = true) :
    Calls Try.prog 19 #[.pointer (some ⟨b, 0, none⟩), .int .i64 c] W fun e w' => e = .returned (.bool (decide (0 < (h c).length))) ∧ W = w' := by
  obtain ⟨D, ⟨bn, bw, N, M, hB⟩, _⟩ := H.ex
  exact owWas hB c hc
theorem Bo.count (H : Bo w1 b f h X W) (c : Int) (hc : (Lit.int .i64 c).wf = true) :
    Calls Try.prog 16 #[.pointer (some ⟨b, 0, none⟩), .int .i64 c] W fun e w' => e = .returned (.int .i64 ((f c).length : Nat)) ∧ W = w' := by
  obtain ⟨D, ⟨bn, bw, N, M, hB⟩, _⟩ := H.ex
  exact owCount hB c hc
theorem Bo.free (H : Bo w1 b f h X W) : Calls Try.prog 20 #[.pointer (some ⟨b, 0, none⟩)] W fun e w' => e = .returned (.int .i64 (freeN f h)) ∧ W = w' := by
  obtain ⟨D, ⟨bn, bw, N, M, hB⟩, _⟩ := H.ex
  exact owFree hB
theorem Bo.alone (H : Bo w1 b f h X W) (c : Int) (hc : (Lit.int .i64 c).wf = true) (o : Ow) :
    Calls Try.prog 17 #[.pointer (some ⟨b, 0, none⟩), .int .i64 c, ownV o] W fun e w' => e = .returned (.bool (aloneB f h c o)) ∧ KeptIn (· < W.heap.size) W w' := by
  obtain ⟨D, ⟨bn, bw, N, M, hB⟩, _⟩ := H.ex
  exact owAlone hB c hc o
theorem Bo.list (H : Bo w1 b f h X W) (c : Int) (hc : (Lit.int .i64 c).wf = true) (hl : (f c).length ≤ 2000) :
    Calls Try.prog 15 #[.pointer (some ⟨b, 0, none⟩), .int .i64 c] W (CloneO W (f c)) := by
  obtain ⟨D, ⟨bn, bw, N, M, hB⟩, _⟩ := H.ex
  exact owList hB c hc hl
theorem Bo.chunks (H : Bo w1 b f h X W) : Calls Try.prog 22 #[.pointer (some ⟨b, 0, none⟩)] W (ChunkS W f) := by
  obtain ⟨D, ⟨bn, bw, N, M, hB⟩, _⟩ := H.ex
  exact owChunks hB
theorem Bo.srt (H : Bo w1 b f h X W) : ∀ c, Srt13 (f c) := by
  obtain ⟨D, hb, _⟩ := H.ex
  exact hb.srt
theorem Bo.ran (H : Bo w1 b f h X W) : ∀ c, f c ≠ [] → 1 ≤ c ∧ c ≤ 1023 := by
  obtain ⟨D, hb, _⟩ := H.ex
  exact hb.ran
end

theorem Bo.new {w : World} {b : Nat} {D : Nat → Prop} {W : World} (hb : BkA w.heap.size b (fun _ => []) (fun _ => []) D W) (hk : KeptIn (· < w.heap.size) w W) : Bo w b (fun _ => []) (fun _ => []) (fun _ => False) W :=
  ⟨⟨D, hb, fun k hk => hk.elim⟩, hk⟩

theorem ch_wf (c : Int) (h1 : 1 ≤ c) (h2 : c ≤ 1023) : (Lit.int .i64 c).wf = true := by
  simp [Lit.wf, IntKind.min, IntKind.max, IntKind.signed, IntKind.bits]
  omega

theorem keysO_eq (f : Int → List Ow) (l : List Int) (hs : l.Pairwise (· < ·)) (h : ∀ c, c ∈ l ↔ 0 ≤ c ∧ c < 1024 ∧ f c ≠ []) : keysO f = l :=
  sorted_eq9 ((upTo_sorted _ _).imp fun h => Int.le_of_lt h) (hs.imp fun h => Int.le_of_lt h) ((upTo_sorted _ _).imp fun {a b} h e => by omega) (hs.imp fun {a b} h e => by omega) fun c => by
    unfold keysO
    rw [mem_upTo, h c, decide_eq_true_eq]
    exact Iff.rfl

/-- The two owners of awake. -/
def ox13 : Ow := ⟨1, 0, 0⟩
def oy13 : Ow := ⟨2, 0, 0⟩
def f13 (l : List Ow) : Int → List Ow := setF (fun _ => []) 1 l
theorem f13_one (l : List Ow) : f13 l 1 = l := setF_same _ _ _
theorem f13_other (l : List Ow) {c : Int} (h : c ≠ 1) : f13 l c = [] := setF_other _ _ h
theorem f13_set (l l' : List Ow) : setF (f13 l) 1 l' = f13 l' := by
  funext c
  unfold f13 setF
  split <;> rfl
theorem aw_add1 : addE (fun _ => []) 1 ox13 = 0 ∧ addF (fun _ => []) 1 ox13 = f13 [ox13] := by
  have h : addE (fun _ => []) 1 ox13 = 0 := by decide
  exact ⟨h, by unfold addF; rw [if_pos h]; rfl⟩
theorem aw_add2 : addE (f13 [ox13]) 1 oy13 = 0 ∧ addF (f13 [ox13]) 1 oy13 = f13 [ox13, oy13] := by
  have h : addE (f13 [ox13]) 1 oy13 = 0 := by unfold addE; rw [f13_one]; decide
  exact ⟨h, by unfold addF; rw [if_pos h, f13_one, f13_set]; rfl⟩
theorem aw_rem : remE (f13 [ox13, oy13]) 1 oy13 = (false, 0) ∧ remF (f13 [ox13, oy13]) 1 oy13 = f13 [ox13] := by
  constructor
  · unfold remE; rw [f13_one]; decide
  · unfold remF; rw [f13_one, if_pos (by decide), f13_set]; rfl
theorem aw_al1 : aloneB (f13 [ox13]) (f13 [ox13, oy13]) 1 ox13 = false := by unfold aloneB; rw [f13_one, f13_one]; decide
theorem aw_al2 : aloneB (f13 [ox13]) (f13 [ox13]) 1 ox13 = true := by unfold aloneB; rw [f13_one]; decide
theorem aw_free : freeN (f13 [ox13]) (f13 [ox13]) = 2 :=
  (freeN_is _ _).uniq (.inl ⟨by omega, by omega, ⟨f13_other _ (by omega), f13_other _ (by omega)⟩, fun c h1 h2 h3 => by
    obtain rfl : c = 1 := by omega
    rw [f13_one] at h3
    cases h3.1⟩)
theorem aw_keys : (keysO (f13 [ox13])).length = 1 := by
  rw [keysO_eq (f13 [ox13]) [1] (by simp) fun c => ?_]
  · rfl
  · rw [List.mem_singleton]
    constructor
    · rintro rfl
      rw [f13_one]
      exact ⟨by omega, by omega, by simp⟩
    · intro h
      by_cases e : c = 1
      · exact e
      · exact absurd (f13_other _ e) h.2.2

theorem lenRow {W : World} {B n : Nat} {v : Value} {xs : List Value} (h : W.ownsRow B 3 1 v n xs) : ∃ a cap, v = .slice a n cap := by
  rcases h.2 with ⟨rfl, rfl⟩ | ⟨g, cap, cur, rfl, _⟩
  · exact ⟨none, 0, rfl⟩
  · exact ⟨_, cap, rfl⟩

theorem ownV_x : ownV ox13 = .agg #[.int .i64 1, .int .i64 0, .int .i64 0] := rfl
theorem ownV_y : ownV oy13 = .agg #[.int .i64 2, .int .i64 0, .int .i64 0] := rfl
theorem cells_x {x : Nat} {W : World} (h : BoxO x ox13 W) : W.cell? ⟨x, 0, none⟩ = some (.int .i64 1) ∧ W.cell? ⟨x, 1, none⟩ = some (.int .i64 0) ∧ W.cell? ⟨x, 2, none⟩ = some (.int .i64 0) := h.cells
theorem cells_y {x : Nat} {W : World} (h : BoxO x oy13 W) : W.cell? ⟨x, 0, none⟩ = some (.int .i64 2) ∧ W.cell? ⟨x, 1, none⟩ = some (.int .i64 0) ∧ W.cell? ⟨x, 2, none⟩ = some (.int .i64 0) := h.cells

set_option maxHeartbeats 1000000 in
set_option maxRecDepth 100000 in
theorem awake13 (w : World) : Calls Try.prog 6 #[] w fun e w' => e = .returned (.bool true) ∧ KeptIn (· < w.heap.size) w w' := by
  go_enter Try.func6, Try.ntmps6
  go_wp2_with fail
  refine (owNew w).mono ?_
  rintro e W0 hN
  unfold NewO at hN
  obtain ⟨b, D, rfl, hb, hk⟩ := hN
  have H0 := Lib.hid (Bo.new hb hk)
  clear hb hk
  go_upto_region 6 with fail
  obtain ⟨x, hx⟩ : ∃ x, W0.heap.size = x := ⟨_, rfl⟩
  obtain ⟨W2, hW2⟩ : ∃ W, (W0.alloc (.cells #[.int .i64 1, .int .i64 0, .int .i64 0] 31)).alloc (.cells #[.int .i64 2, .int .i64 0, .int .i64 0] 31) = W := ⟨_, rfl⟩
  have hk : KeptIn (· < W0.heap.size) W0 W2 := by rw [← hW2]; exact ((KeptIn.refl _ W0).alloc (fun _ h => h) _).alloc (fun _ h => h) _
  have bx : BoxO x ox13 W2 := by rw [← hW2, ← hx]; exact (BoxO.new W0 ox13).old ((KeptIn.refl _ _).alloc (fun _ h => h) _)
  have bY : BoxO (x + 1) oy13 W2 := by rw [← hW2, ← hx, show W0.heap.size + 1 = (W0.alloc (.cells #[.int .i64 1, .int .i64 0, .int .i64 0] 31)).heap.size by simp]; exact BoxO.new _ oy13
  have H2 := Lib.hid (H0.out.more hk (fun k => k = x ∨ k = x + 1) (fun k hk' => .inr (by
    have := bx.lt
    have := bY.lt
    rcases hk' with rfl | rfl
    · exact ⟨by omega, by omega⟩
    · exact ⟨by omega, by omega⟩)))
  rw [hx, hW2]
  have HB2 := Lib.hid (And.intro bx bY)
  clear hk bx bY H0 hW2 hx
  have w1 : (Lit.int .i64 (1 : Int)).wf = true := by decide
  obtain ⟨c0, c1, c2⟩ := cells_x HB2.out.1
  have C := Lib.hid (H2.out.add 1 w1 ox13 (by simp))
  rw [aw_add1.1, aw_add1.2, ownV_x] at C
  go_wp2_with (go_at_call 8; refine C.out.mono ?_)
  rintro e W3 hD
  obtain ⟨rfl, h3, k3⟩ := hD
  have H3 := Lib.hid h3
  have HB3 := Lib.hid (And.intro (HB2.out.1.kept k3 (.inl rfl)) (HB2.out.2.kept k3 (.inr rfl)))
  clear C H2 HB2 h3 k3
  clear c0 c1 c2
  obtain ⟨d0, d1, d2⟩ := cells_y HB3.out.2
  have C := Lib.hid (H3.out.add 1 w1 oy13 (by rw [f13_one]; simp))
  rw [aw_add2.1, aw_add2.2, ownV_y] at C
  go_wp2_with (go_at_call 8; refine C.out.mono ?_)
  rintro e W4 hD
  obtain ⟨rfl, h4, k4⟩ := hD
  have H4 := Lib.hid h4
  have HB4 := Lib.hid (And.intro (HB3.out.1.kept k4 (.inl rfl)) (HB3.out.2.kept k4 (.inr rfl)))
  clear C H3 HB3 h4 k4
  clear d0 d1 d2
  have C := Lib.hid H4.out.commit
  go_wp2_with (go_at_call 14; refine C.out.mono ?_)
  rintro e W5 hD
  obtain ⟨rfl, h5, k5⟩ := hD
  have H5 := Lib.hid h5
  have HB5 := Lib.hid (And.intro (HB4.out.1.kept k5 (.inl rfl)) (HB4.out.2.kept k5 (.inr rfl)))
  clear C H4 HB4 h5 k5
  obtain ⟨d0, d1, d2⟩ := cells_y HB5.out.2
  have C := Lib.hid (H5.out.remove 1 w1 oy13 (by rw [f13_one]; simp))
  rw [aw_rem.1, aw_rem.2, ownV_y] at C
  dsimp only at C
  go_wp2_with (go_at_call 11; refine C.out.mono ?_)
  rintro e W6 hD
  obtain ⟨rfl, h6, k6⟩ := hD
  have H6 := Lib.hid h6
  have HB6 := Lib.hid (And.intro (HB5.out.1.kept k6 (.inl rfl)) (HB5.out.2.kept k6 (.inr rfl)))
  clear C H5 HB5 h6 k6
  clear d0 d1 d2
  obtain ⟨c0, c1, c2⟩ := cells_x HB6.out.1
  have C := Lib.hid (H6.out.alone 1 w1 ox13)
  rw [aw_al1, ownV_x] at C
  go_wp2_with (go_at_call 17; refine C.out.mono ?_)
  rintro e W7 ⟨rfl, k7⟩
  have H7 := Lib.hid (H6.out.old k7)
  have HB7 := Lib.hid (And.intro (HB6.out.1.old k7) (HB6.out.2.old k7))
  clear C H6 HB6 k7 c0 c1 c2
  have C := Lib.hid H7.out.commit
  go_wp2_with (go_at_call 14; refine C.out.mono ?_)
  rintro e W8 hD
  obtain ⟨rfl, h8, k8⟩ := hD
  have H8 := Lib.hid h8
  have HB8 := Lib.hid (And.intro (HB7.out.1.kept k8 (.inl rfl)) (HB7.out.2.kept k8 (.inr rfl)))
  clear C H7 HB7 h8 k8
  obtain ⟨c0, c1, c2⟩ := cells_x HB8.out.1
  have C := Lib.hid (H8.out.alone 1 w1 ox13)
  rw [aw_al2, ownV_x] at C
  go_wp2_with (go_at_call 17; refine C.out.mono ?_)
  rintro e W9 ⟨rfl, k9⟩
  have H9 := Lib.hid (H8.out.old k9)
  clear C H8 HB8 k9 c0 c1 c2
  have C1 := Lib.hid (H9.out.count 1 w1)
  have C2 := Lib.hid H9.out.free
  have C3 := Lib.hid (H9.out.was 1 w1)
  have C4 := Lib.hid H9.out.chunks
  rw [f13_one] at C1 C3
  rw [aw_free] at C2
  simp only [List.length_singleton] at C1 C3
  go_wp2_with (first | (go_at_call 16; refine C1.out.mono ?_; rintro e _ ⟨rfl, rfl⟩) | (go_at_call 20; refine C2.out.mono ?_; rintro e _ ⟨rfl, rfl⟩) | (go_at_call 19; refine C3.out.mono ?_; rintro e _ ⟨rfl, rfl⟩))
  refine C4.out.mono ?_
  rintro e V hC
  obtain ⟨v, rfl, hr, hk⟩ := hC
  rw [aw_keys] at hr
  obtain ⟨a, cap, rfl⟩ := lenRow hr
  have HK := Lib.hid (H9.out.kept.trans (hk.mono fun k h => Nat.lt_of_lt_of_le h H9.out.kept.size))
  clear hr hk C1 C2 C3 C4 H9
  go_wp2_with fail
  go_ret
  exact ⟨rfl, HK.out⟩

end Go.Proofs.Ytononiedecpllaa
