/- Pages in memory: package tree's Shelf: Read. -/
import Derived.Test.YtnmjnaajpgdlgaaPg
set_option linter.unusedVariables false
namespace Go.Proofs.Ytnmjnaajpgdlgaa
open Go.RowKit

/-- A node: its level, its pairs. -/
abbrev Nd := Nat × Pairs

/-- A node in memory, its pairs in a block of D. -/
def NodeAt (W : World) (D : Nat → Prop) (b off : Nat) (nd : Nd) : Prop :=
  ∃ a cap, W.cell? ⟨b, off, none⟩ = some (.int .i64 (nd.1 : Int)) ∧ W.cell? ⟨b, off + 1, none⟩ = some (.slice a nd.2.length cap) ∧ IsPs W a nd.2 ∧ ∀ p, a = some p → D p.block
theorem NodeAt.kept {W W' : World} {D D' : Nat → Prop} {b off : Nat} {nd : Nd} (h : NodeAt W D b off nd) (hk : KeptIn D W W') (hb : D b) (hD : ∀ k, D k → D' k) : NodeAt W' D' b off nd := by
  obtain ⟨a, cap, h1, h2, h3, h4⟩ := h
  exact ⟨a, cap, (World.cell?_of_block (a := ⟨b, off, none⟩) (hk.block b hb)).trans h1, (World.cell?_of_block (a := ⟨b, off + 1, none⟩) (hk.block b hb)).trans h2, psAt h3 hk h4, fun p e => hD _ (h4 p e)⟩

/-- The Shelf at block s: nodes N, room for so many; all that it is made of lies in D. -/
structure IsSh (W : World) (s room : Nat) (N : List Nd) (D : Nat → Prop) : Prop where
  ds : D s
  lt : ∀ k, D k → k < W.heap.size
  len : N.length ≤ 511
  rm : room ≤ 1000000
  pos : ∀ i (h : i < N.length), 0 < N[i].2.length ∧ N[i].2.length ≤ 1000
  mem : ∃ la cap, W.heap[s]? = some (.cells #[.slice la N.length cap, .int .i64 (room : Int)] 28 (0, 0)) ∧ (N.length = 0 → la = none ∧ cap = 0) ∧
    (0 < N.length → ∃ b, la = some ⟨b, 0, none⟩ ∧ D b ∧ b ≠ s ∧ N.length ≤ cap ∧ cap ≤ maxLen ∧ ∀ i (h : i < N.length), NodeAt W (fun k => D k ∧ k ≠ s) b (i * 2) N[i])

theorem IsSh.kept {W W' : World} {s room : Nat} {N : List Nd} {D : Nat → Prop} (h : IsSh W s room N D) (hk : KeptIn D W W') : IsSh W' s room N D := by
  obtain ⟨la, cap, h1, h0, h2⟩ := h.mem
  refine ⟨h.ds, fun k hD => Nat.lt_of_lt_of_le (h.lt k hD) hk.size, h.len, h.rm, h.pos, la, cap, (hk.block s h.ds).trans h1, h0, fun hp => ?_⟩
  obtain ⟨b, e, hb, hne, hc, hm, hi⟩ := h2 hp
  exact ⟨b, e, hb, hne, hc, hm, fun i hl => (hi i hl).kept (hk.mono fun _ h => h.1) ⟨hb, hne⟩ fun _ h => h⟩
theorem IsSh.old {W W' : World} {s room : Nat} {N : List Nd} {D : Nat → Prop} (h : IsSh W s room N D) (hk : KeptIn (· < W.heap.size) W W') : IsSh W' s room N D := h.kept (hk.mono h.lt)

theorem psSet {V : World} {a : Option Addr} {ps : Pairs} (h : IsPs V a ps) (q : Addr) (v : Value) (hq : ∀ p, a = some p → p.block ≠ q.block) : IsPs (V.setCell q v) a ps :=
  psAt (X := fun k => k ≠ q.block) h ((KeptIn.refl _ V).setCell (by simp) v) hq

/-- A node that was read: a copy of its own. -/
def RdS (w : World) (lv : Int) (ps : Pairs) (e : Ending) (w' : World) : Prop :=
  ∃ g cap, e = .returned (.tuple #[leafV lv (some ⟨g, 0, none⟩) ps.length cap, .int .i64 0]) ∧ IsPs w' (some ⟨g, 0, none⟩) ps ∧ w.heap.size ≤ g ∧ KeptIn (· < w.heap.size) w w' ∧ TyC w' g ps.length cap

theorem sh_nums (i p n : Nat) (hp : i + 1 = p) (hi : i < n) (hn : n ≤ 511) : (1 : Int) ≤ (p : Int) ∧ (p : Int) ≤ (n : Int) ∧ wrap64 ((p : Int) - 1) = (i : Int) ∧ (0 : Int) ≤ (i : Int) ∧ (i : Int) < (n : Int) ∧ (p : Int) - 1 = (i : Int) ∧ wrap64 (i : Int) = (i : Int) ∧ ¬ n < p := by
  refine ⟨by omega, by omega, ?_, by omega, by omega, by omega, ?_, by omega⟩ <;> unfold wrap64 <;> omega

set_option maxRecDepth 100000 in
theorem shRead {w : World} {s room : Nat} {N : List Nd} {D : Nat → Prop} (h : IsSh w s room N D) (i : Nat) (hi : i < N.length) :
    Calls Try.prog 21 #[.pointer (some ⟨s, 0, none⟩), .int .i64 ((i + 1 : Nat) : Int)] w (RdS w (N[i].1 : Int) N[i].2) := by
  obtain ⟨la, cap, h1, _, h2⟩ := h.mem
  obtain ⟨b, rfl, hb, _, _, _, hn⟩ := h2 (by omega)
  obtain ⟨a, capn, e1, e2, hps, ha⟩ := hn i hi
  obtain ⟨hp0, hp1⟩ := h.pos i hi
  have hl := h.len
  have hsl : s < w.heap.size := h.lt s h.ds
  have hbl : b < w.heap.size := h.lt b hb
  clear h2 hn
  obtain ⟨lv, hlv⟩ : ∃ lv, N[i].1 = lv := ⟨_, rfl⟩
  obtain ⟨ps, hpe⟩ : ∃ ps, N[i].2 = ps := ⟨_, rfl⟩
  rw [hlv] at e1
  rw [hpe] at e2 hps hp0 hp1
  rw [hlv, hpe]
  clear hlv hpe
  obtain ⟨n, hnl⟩ : ∃ n, N.length = n := ⟨_, rfl⟩
  rw [hnl] at h1 hi hl
  obtain ⟨p, hp⟩ : ∃ p, i + 1 = p := ⟨_, rfl⟩
  rw [hp]
  have CC := Lib.hid fun V (hk : KeptIn (· < w.heap.size) w V) => trCopy (lv : Int) a capn ps V (hps.old hk) hp0 (Nat.le_trans hp1 (by decide))
  obtain ⟨p0, p1, p2, i0, i1, p3, p4, p5⟩ := sh_nums i p n hp hi hl
  obtain ⟨W, hW⟩ : ∃ W, w.alloc (.cells #[.int .i64 0, .slice none 0 0] 66) = W := ⟨_, rfl⟩
  have hk : KeptIn (· < w.heap.size) w W := by rw [← hW]; exact (KeptIn.refl _ w).alloc (fun _ h => h) _
  have hr : BoxL w.heap.size 0 none 0 0 W := by rw [← hW]; exact BoxL.new w 0 none 0 0
  obtain ⟨x, hx⟩ : ∃ x, w.heap.size = x := ⟨_, rfl⟩
  have hsb := (hk.block s hsl).trans h1
  have c0 : W.cell? ⟨s, 0, none⟩ = some (.slice (some ⟨b, 0, none⟩) n cap) := by simp [World.cell?, hsb]
  have d1 := (World.cell?_of_block (a := ⟨b, i * 2, none⟩) (hk.block b hbl)).trans e1
  have d2 := (World.cell?_of_block (a := ⟨b, i * 2 + 1, none⟩) (hk.block b hbl)).trans e2
  have HC := Lib.hid (CC.out W hk)
  have HQ := Lib.hid (And.intro hr hk)
  rw [hx] at HQ
  obtain ⟨m, hm⟩ : ∃ m, ps.length = m := ⟨_, rfl⟩
  unfold leafV at HC
  rw [hm] at HC d2
  have HM := Lib.hid hm
  clear CC hps ha hp hp0 hp1 e1 e2 h1 hb hl hnl hi h hr hk hsb hm hbl hsl
  go_enter Try.func21, Try.ntmps21
  go_wp2_with (go_at_call 34; refine HC.out.mono ?_)
  rintro e V ⟨g, cg, rfl, hps, hg, hk, hty⟩
  have hrb := HQ.out.1.kept hk HQ.out.1.lt
  have c3 := hrb.c0
  have f3 := hrb.f0
  have c4 := hrb.c1
  have f4 := hrb.f1
  have hwx : x ≤ W.heap.size := by rw [← hx]; exact HQ.out.2.size
  have hg' : x ≤ g := Nat.le_trans hwx hg
  have hxg : x < g := Nat.lt_of_lt_of_le HQ.out.1.lt hg
  have hkx : KeptIn (· < x) w V := HQ.out.2.trans (hk.mono fun k h => Nat.lt_of_lt_of_le h hwx)
  have HB := Lib.hid hrb
  have HK := Lib.hid hkx
  have HTY := Lib.hid hty
  clear hty
  have HP := Lib.hid (And.intro hps (And.intro hg' hxg))
  clear hrb hk hps hg hg' hxg hkx hwx
  unfold leafV at *
  rw [HM.out]
  go_wp2_with fail
  have hset := BoxL.set (lv' := (lv : Int)) (a' := some ⟨g, 0, none⟩) (n' := m) (cap' := cg) HB.out
  have hps := psSet (psSet HP.out.1 ⟨x, 0, none⟩ (.int .i64 (lv : Int)) (fun p e => by cases e; exact Nat.ne_of_gt HP.out.2.2)) ⟨x, 1, none⟩ (.slice (some ⟨g, 0, none⟩) m cg) (fun p e => by cases e; exact Nat.ne_of_gt HP.out.2.2)
  have hkx := (HK.out.setCell (p := ⟨x, 0, none⟩) (by simp) (.int .i64 (lv : Int))).setCell (p := ⟨x, 1, none⟩) (by simp) (.slice (some ⟨g, 0, none⟩) m cg)
  refine bodyPost_ret (results_leaf rfl _ _ x _ _ _ _ rfl hset) rfl ?_
  exact ⟨g, cg, by rw [HM.out]; rfl, hps, by rw [hx]; exact HP.out.2.1, by rw [hx]; exact hkx, (HTY.out.set _ _ (Nat.ne_of_gt HP.out.2.2)).set _ _ (Nat.ne_of_gt HP.out.2.2)⟩

end Go.Proofs.Ytnmjnaajpgdlgaa
