import Derived.Test.YtdbohcdjamhdjaaV3
import Derived.Deep.Cut
import Derived.Deep.CutRange
/- Package tree's Shelf, whatever nodes it has: Read. -/
set_option linter.unusedVariables false
namespace Go.Proofs.Ytdbohcdjamhdjaa
open Go.RowKit

/-- A node, whatever its level. -/
abbrev NdA := Int × Pairs
/-- Pairs in memory, in a block below H. -/
def PsH (W : World) (H : Nat) (a : Option Addr) (ps : Pairs) : Prop := IsPs W a ps ∧ (0 < ps.length → ∀ p, a = some p → p.block < H)
theorem PsH.kept {W W' : World} {H : Nat} {a : Option Addr} {ps : Pairs} (h : PsH W H a ps) (hk : KeptIn (· < H) W W') : PsH W' H a ps := by
  by_cases h0 : ps.length = 0
  · exact ⟨psNone h0, fun hp => by omega⟩
  · exact ⟨psAt h.1 hk (h.2 (by omega)), h.2⟩
/-- A node in memory. -/
def NodeA (W : World) (H b off : Nat) (nd : NdA) : Prop :=
  ∃ a cap, W.cell? ⟨b, off, none⟩ = some (.int .i64 nd.1) ∧ W.cell? ⟨b, off + 1, none⟩ = some (.slice a nd.2.length cap) ∧ PsH W H a nd.2
/-- The Shelf at block s: whatever nodes; all that it is made of lies below H. -/
structure IsShA (W : World) (s H : Nat) (NA : List NdA) : Prop where
  ds : s < H
  le : H ≤ W.heap.size
  len : NA.length ≤ 511
  small : ∀ i (h : i < NA.length), NA[i].2.length ≤ 1000
  mem : ∃ la cap, W.cell? ⟨s, 0, none⟩ = some (.slice la NA.length cap) ∧ (0 < NA.length → ∃ b off, la = some ⟨b, off, none⟩ ∧ b < H ∧ ∀ i (h : i < NA.length), NodeA W H b (off + i * 2) NA[i])
theorem IsShA.kept {W W' : World} {s H : Nat} {NA : List NdA} (h : IsShA W s H NA) (hk : KeptIn (· < H) W W') : IsShA W' s H NA := by
  obtain ⟨la, cap, h1, h2⟩ := h.mem
  refine ⟨h.ds, Nat.le_trans h.le hk.size, h.len, h.small, la, cap, (World.cell?_of_block (a := ⟨s, 0, none⟩) (hk.block s h.ds)).trans h1, fun hp => ?_⟩
  obtain ⟨b, off, e, hb, hi⟩ := h2 hp
  refine ⟨b, off, e, hb, fun i hl => ?_⟩
  obtain ⟨a, cp, q1, q2, q3⟩ := hi i hl
  exact ⟨a, cp, (World.cell?_of_block (a := ⟨b, off + i * 2, none⟩) (hk.block b hb)).trans q1, (World.cell?_of_block (a := ⟨b, off + i * 2 + 1, none⟩) (hk.block b hb)).trans q2, q3.kept hk⟩
theorem IsShA.old {W W' : World} {s H : Nat} {NA : List NdA} (h : IsShA W s H NA) (hk : KeptIn (· < W.heap.size) W W') : IsShA W' s H NA := h.kept (hk.mono fun k hk' => Nat.lt_of_lt_of_le hk' h.le)

/-- A node that was read. -/
def RdA (w : World) (lv : Int) (ps : Pairs) (e : Ending) (w' : World) : Prop :=
  ∃ a cap, e = .returned (.tuple #[leafV lv a ps.length cap, .int .i64 0]) ∧ NewP w.heap.size a cap ps w' ∧ KeptIn (· < w.heap.size) w w'

set_option maxRecDepth 100000 in
theorem shReadA {w : World} {s H : Nat} {NA : List NdA} (h : IsShA w s H NA) (i : Nat) (hi : i < NA.length) :
    Calls Try.prog 118 #[.pointer (some ⟨s, 0, none⟩), .int .i64 ((i + 1 : Nat) : Int)] w (RdA w NA[i].1 NA[i].2) := by
  obtain ⟨la, cap, h1, h2⟩ := h.mem
  obtain ⟨b, off, rfl, hb, hn⟩ := h2 (by omega)
  obtain ⟨a, capn, e1, e2, hps⟩ := hn i hi
  have hp1 := h.small i hi
  have hl := h.len
  have hsl : s < w.heap.size := Nat.lt_of_lt_of_le h.ds h.le
  have hbl : b < w.heap.size := Nat.lt_of_lt_of_le hb h.le
  clear h2 hn
  obtain ⟨lv, hlv⟩ : ∃ lv, NA[i].1 = lv := ⟨_, rfl⟩
  obtain ⟨ps, hpe⟩ : ∃ ps, NA[i].2 = ps := ⟨_, rfl⟩
  rw [hlv] at e1
  rw [hpe] at e2 hps hp1
  rw [hlv, hpe]
  clear hlv hpe
  obtain ⟨n, hnl⟩ : ∃ n, NA.length = n := ⟨_, rfl⟩
  rw [hnl] at h1 hi hl
  obtain ⟨p, hp⟩ : ∃ p, i + 1 = p := ⟨_, rfl⟩
  rw [hp]
  have CC := Lib.hid fun V (hk : KeptIn (· < w.heap.size) w V) => trCopyA lv a capn ps V (hps.1.old hk) (by omega)
  obtain ⟨p0, p1, p2, i0, i1, p3, p4, p5⟩ := sh_nums i p n hp hi hl
  obtain ⟨W, hW⟩ : ∃ W, w.alloc (.cells #[.int .i64 0, .slice none 0 0] 27) = W := ⟨_, rfl⟩
  have hk : KeptIn (· < w.heap.size) w W := by rw [← hW]; exact (KeptIn.refl _ w).alloc (fun _ h => h) _
  have hr : BoxL w.heap.size 0 none 0 0 W := by rw [← hW]; exact BoxL.new w 0 none 0 0
  obtain ⟨x, hx⟩ : ∃ x, w.heap.size = x := ⟨_, rfl⟩
  have c0 := (World.cell?_of_block (a := ⟨s, 0, none⟩) (hk.block s hsl)).trans h1
  have d1 := (World.cell?_of_block (a := ⟨b, off + i * 2, none⟩) (hk.block b hbl)).trans e1
  have d2 := (World.cell?_of_block (a := ⟨b, off + i * 2 + 1, none⟩) (hk.block b hbl)).trans e2
  have HC := Lib.hid (CC.out W hk)
  have HQ := Lib.hid (And.intro hr hk)
  rw [hx] at HQ
  obtain ⟨m, hm⟩ : ∃ m, ps.length = m := ⟨_, rfl⟩
  unfold leafV at HC
  rw [hm] at HC d2
  have HM := Lib.hid hm
  clear CC hps hp hp1 e1 e2 h1 hb hl hnl hi h hr hk hm hbl hsl
  go_enter Try.func118, Try.ntmps118
  go_wp2_with (go_at_call 120; refine HC.out.mono ?_)
  rintro e V ⟨g, cg, rfl, hnew, hk⟩
  have hrb := HQ.out.1.kept hk HQ.out.1.lt
  have c3 := hrb.c0
  have f3 := hrb.f0
  have c4 := hrb.c1
  have f4 := hrb.f1
  have hwx : x ≤ W.heap.size := by rw [← hx]; exact HQ.out.2.size
  have hxW : x < W.heap.size := HQ.out.1.lt
  have hkx : KeptIn (· < x) w V := HQ.out.2.trans (hk.mono fun k h => Nat.lt_of_lt_of_le h hwx)
  have HB := Lib.hid hrb
  have HK := Lib.hid hkx
  have HP := Lib.hid (And.intro hnew hxW)
  clear hrb hk hnew hkx hwx hxW
  unfold leafV at *
  rw [HM.out]
  go_wp2_with fail
  have hset := BoxL.set (lv' := lv) (a' := g) (n' := m) (cap' := cg) HB.out
  have hnew := ((HP.out.1.set ⟨x, 0, none⟩ (.int .i64 lv) HP.out.2).set ⟨x, 1, none⟩ (.slice g m cg) HP.out.2).mono (B' := w.heap.size) (by rw [hx]; exact Nat.le_of_lt HP.out.2)
  have hkx := (HK.out.setCell (p := ⟨x, 0, none⟩) (by simp) (.int .i64 lv)).setCell (p := ⟨x, 1, none⟩) (by simp) (.slice g m cg)
  refine bodyPost_ret (results_leaf rfl _ _ x _ _ _ _ rfl hset) rfl ?_
  exact ⟨g, cg, by rw [HM.out]; rfl, hnew, by rw [hx]; exact hkx⟩

/-- No node is answered: an error. -/
def BadE (ev : Int) (w : World) (e : Ending) (w' : World) : Prop := e = .returned (.tuple #[leafV 0 none 0 0, .int .i64 ev]) ∧ KeptIn (· < w.heap.size) w w'

set_option maxRecDepth 100000 in
theorem shBadA {w : World} {s H : Nat} {NA : List NdA} (h : IsShA w s H NA) (p : Int) (hp : p < 1 ∨ (NA.length : Int) < p) :
    Calls Try.prog 118 #[.pointer (some ⟨s, 0, none⟩), .int .i64 p] w (BadE 9 w) := by
  obtain ⟨la, cap, h1, _⟩ := h.mem
  have hsl : s < w.heap.size := Nat.lt_of_lt_of_le h.ds h.le
  obtain ⟨n, hnl⟩ : ∃ n, NA.length = n := ⟨_, rfl⟩
  rw [hnl] at h1 hp
  obtain ⟨W, hW⟩ : ∃ W, w.alloc (.cells #[.int .i64 0, .slice none 0 0] 27) = W := ⟨_, rfl⟩
  have hk : KeptIn (· < w.heap.size) w W := by rw [← hW]; exact (KeptIn.refl _ w).alloc (fun _ h => h) _
  have hr : BoxL w.heap.size 0 none 0 0 W := by rw [← hW]; exact BoxL.new w 0 none 0 0
  obtain ⟨x, hx⟩ : ∃ x, w.heap.size = x := ⟨_, rfl⟩
  have c0 := (World.cell?_of_block (a := ⟨s, 0, none⟩) (hk.block s hsl)).trans h1
  rw [hx] at hr
  have c3 := hr.c0
  have f3 := hr.f0
  have c4 := hr.c1
  have f4 := hr.f1
  have hset := BoxL.set (lv' := (0 : Int)) (a' := none) (n' := 0) (cap' := 0) hr
  have hkx : KeptIn (· < w.heap.size) w ((W.setCell ⟨x, 0, none⟩ (.int .i64 0)).setCell ⟨x, 1, none⟩ (.slice none 0 0)) := (hk.setCell (p := ⟨x, 0, none⟩) (by simp [hx]) (.int .i64 0)).setCell (p := ⟨x, 1, none⟩) (by simp [hx]) (.slice none 0 0)
  have HS := Lib.hid (And.intro hset hkx)
  have HW := Lib.hid hW
  have HX := Lib.hid hx
  clear hk hr h1 h hsl hnl hset hkx hW hx
  have hd : (p < 1) = True ∨ ((p < 1) = False ∧ ((n : Int) < p) = True) := by
    by_cases e : p < 1
    · exact .inl (eq_true e)
    · exact .inr ⟨eq_false e, eq_true (by omega)⟩
  clear hp
  rcases hd with d1 | ⟨d1, d2⟩
  · go_enter Try.func118, Try.ntmps118
    go_upto_region 3 with fail
    rw [HW.out, HX.out]
    go_wp2_with fail
    try simp only [Exit.inBlock, Exit.then]
    refine bodyPost_ret (results_leaf rfl _ _ x _ _ _ _ rfl HS.out.1) rfl ?_
    exact ⟨rfl, HS.out.2⟩
  · go_enter Try.func118, Try.ntmps118
    go_upto_region 3 with fail
    rw [HW.out, HX.out]
    go_wp2_with fail
    try simp only [Exit.inBlock, Exit.then]
    refine bodyPost_ret (results_leaf rfl _ _ x _ _ _ _ rfl HS.out.1) rfl ?_
    exact ⟨rfl, HS.out.2⟩

end Go.Proofs.Ytdbohcdjamhdjaa
