import Derived.Test.YtjollbaohopmjaaMr9W
/- A page that isn't there: what the Shelf, a memo of it, and package tree's readings answer. -/
set_option linter.unusedVariables false
namespace Go.Proofs.Ytjollbaohopmjaa
open Go.RowKit

/-- No such page: nothing, and ErrRange. -/
def BadR (w : World) (e : Ending) (w' : World) : Prop := e = .returned (.tuple #[leafV 0 none 0 0, .int .i64 9]) ∧ KeptIn (· < w.heap.size) w w'

set_option maxRecDepth 100000 in
theorem shBad {w : World} {s room : Nat} {N : List Nd} {D : Nat → Prop} (h : IsSh w s room N D) (p : Int) (hp : p < 1 ∨ (N.length : Int) < p) :
    Calls Try.prog 11 #[.pointer (some ⟨s, 0, none⟩), .int .i64 p] w (BadR w) := by
  obtain ⟨la, cap, h1, _, _⟩ := h.mem
  have hsl : s < w.heap.size := h.lt s h.ds
  obtain ⟨n, hnl⟩ : ∃ n, N.length = n := ⟨_, rfl⟩
  rw [hnl] at h1 hp
  obtain ⟨W, hW⟩ : ∃ W, w.alloc (.cells #[.int .i64 0, .slice none 0 0] 27) = W := ⟨_, rfl⟩
  have hk : KeptIn (· < w.heap.size) w W := by rw [← hW]; exact (KeptIn.refl _ w).alloc (fun _ h => h) _
  have hr : BoxL w.heap.size 0 none 0 0 W := by rw [← hW]; exact BoxL.new w 0 none 0 0
  obtain ⟨x, hx⟩ : ∃ x, w.heap.size = x := ⟨_, rfl⟩
  have hsb := (hk.block s hsl).trans h1
  have c0 : W.cell? ⟨s, 0, none⟩ = some (.slice la n cap) := by simp [World.cell?, hsb]
  rw [hx] at hr
  have c3 := hr.c0
  have f3 := hr.f0
  have c4 := hr.c1
  have f4 := hr.f1
  have hset := BoxL.set (lv' := (0 : Int)) (a' := none) (n' := 0) (cap' := 0) hr
  have hkx : KeptIn (· < w.heap.size) w ((W.setCell ⟨x, 0, none⟩ (.int .i64 0)).setCell ⟨x, 1, none⟩ (.slice none 0 0)) := (hk.setCell (p := ⟨x, 0, none⟩) (by simp [hx]) (.int .i64 0)).setCell (p := ⟨x, 1, none⟩) (by simp [hx]) (.slice none 0 0)
  have HS := Lib.hid (And.intro hset hkx)
  have HW := Lib.hid hW
  have HX := Lib.hid hx
  clear hk hr hsb h1 h hsl hnl hset hkx hW hx
  have hd : (p < 1) = True ∨ ((p < 1) = False ∧ ((n : Int) < p) = True) := by
    by_cases e : p < 1
    · exact .inl (eq_true e)
    · exact .inr ⟨eq_false e, eq_true (by omega)⟩
  clear hp
  rcases hd with d1 | ⟨d1, d2⟩
  · go_enter Try.func11, Try.ntmps11
    go_upto_region 3 with fail
    rw [HW.out, HX.out]
    go_wp2_with fail
    try simp only [Exit.inBlock, Exit.then]
    refine bodyPost_ret (results_leaf rfl _ _ x _ _ _ _ rfl HS.out.1) rfl ?_
    exact ⟨rfl, HS.out.2⟩
  · go_enter Try.func11, Try.ntmps11
    go_upto_region 3 with fail
    rw [HW.out, HX.out]
    go_wp2_with fail
    try simp only [Exit.inBlock, Exit.then]
    refine bodyPost_ret (results_leaf rfl _ _ x _ _ _ _ rfl HS.out.1) rfl ?_
    exact ⟨rfl, HS.out.2⟩

set_option maxHeartbeats 2000000 in
set_option maxRecDepth 100000 in
theorem mmBad {w : World} {s room x c : Nat} {N : List Nd} {D : Nat → Prop} {M : Int → Option (Option Lf9)} (h : IsMm w x c N M) (hS : IsSh w s room N D) (p : Int) (hpw : (Lit.int .i64 p).wf = true) (hb : p < 1 ∨ (N.length : Int) < p) :
    Calls Try.prog 111 #[mmV s x, .int .i64 p] w (BadR w) := by
  have hz : M p = none := by
    cases e : M p with
    | none => rfl
    | some z =>
      obtain ⟨i, hi, _, _, q1, _⟩ := h.node p z e
      omega
  obtain ⟨W, hW⟩ : ∃ W, (w.alloc (.cells #[pgV s, .map (some x)] 60)).alloc (.cells #[.int .i64 0, .slice none 0 0] 27) = W := ⟨_, rfl⟩
  have hk : KeptIn (· < w.heap.size) w W := by rw [← hW]; exact ((KeptIn.refl _ w).alloc (fun _ h => h) _).alloc (fun _ h => h) _
  have hlk := ((h.old hk).map.look lfV9_inj Try.underlying58 none (zeroLeaf9 W) p hpw).1
  rw [hz] at hlk
  obtain ⟨B, hB⟩ : ∃ B, w.heap.size = B := ⟨_, rfl⟩
  have b0 : W.heap[B]? = some (.cells #[pgV s, .map (some x)] 60 (0, 0)) := by
    rw [← hW, ← hB, Lib.alloc_old _ _ _ (by simp)]
    exact heap_alloc_new w _
  have b1 : BoxL (B + 1) 0 none 0 0 W := by
    have := BoxL.new (w.alloc (.cells #[pgV s, .map (some x)] 60)) 0 none 0 0
    rw [World.size_alloc, hB, hW] at this
    exact this
  have c1 : W.cell? ⟨B, 1, none⟩ = some (.map (some x)) := by simp [World.cell?, b0]
  have hkX : KeptIn (· < W.heap.size) W (W.alloc (.cells #[.int .i64 0, .slice none 0 0] 27)) := (KeptIn.refl _ W).alloc (fun _ h => h) _
  have hbl := BoxL.new W 0 none 0 0
  obtain ⟨X, hX⟩ : ∃ X, W.alloc (.cells #[.int .i64 0, .slice none 0 0] 27) = X := ⟨_, rfl⟩
  obtain ⟨y, hy⟩ : ∃ y, W.heap.size = y := ⟨_, rfl⟩
  rw [hX] at hkX hbl
  rw [hy] at hbl
  have CR := shBad (hS.old (hk.trans (hkX.mono fun k h => Nat.lt_of_lt_of_le h hk.size))) p hb
  have hBy : B + 1 < y := by rw [← hy]; exact b1.lt
  have hb0X := (hkX.block B (Array.getElem?_eq_some_iff.1 b0).1).trans b0
  have hb1X := b1.kept hkX b1.lt
  have HW := Lib.hid hW; have HK := Lib.hid hk; have HB := Lib.hid hB; have HX := Lib.hid hX; have HY := Lib.hid hy
  have HC := Lib.hid CR
  have HBX := Lib.hid (And.intro hb0X (And.intro hb1X (And.intro hbl (And.intro hkX hBy))))
  have q0 : X.cell? ⟨B, 0, none⟩ = some (pgV s) := by simp [World.cell?, hb0X]
  simp only [lfV9, Option.getD_none, Option.isSome_none] at hlk
  unfold leafV at hlk
  unfold pgV at *
  unfold mmV pgV
  clear h hz hk hW b0 b1 hB hX hy hkX hbl CR hb0X hb1X hS hpw hBy hb
  go_enter Try.func111, Try.ntmps111
  go_upto_region 1 with fail
  rw [HW.out, HB.out]
  go_upto_region 2 with fail
  rw [HX.out, HY.out]
  clear c1 hlk
  go_wp2_with (go_at_call 11; refine HC.out.mono ?_)
  rintro e V ⟨rfl, kV⟩
  have hb1V := HBX.out.2.1.kept kV HBX.out.2.1.lt
  have hblV := HBX.out.2.2.1.kept kV HBX.out.2.2.1.lt
  unfold leafV
  have d0 := hblV.c0; have d1 := hblV.c1; have e0 := hblV.f0; have e1 := hblV.f1
  have k1 : KeptIn (· ≠ y) V ((V.setCell ⟨y, 0, none⟩ (.int .i64 0)).setCell ⟨y, 1, none⟩ (.slice none 0 0)) := ((KeptIn.refl _ V).setCell (p := ⟨y, 0, none⟩) (by simp) _).setCell (p := ⟨y, 1, none⟩) (by simp) _
  obtain ⟨V1, hV1⟩ : ∃ V1, (V.setCell ⟨y, 0, none⟩ (.int .i64 0)).setCell ⟨y, 1, none⟩ (.slice none 0 0) = V1 := ⟨_, rfl⟩
  rw [hV1] at k1
  have hBy := HBX.out.2.2.2.2
  have hb11 := hb1V.kept k1 (by omega)
  have kw1 : KeptIn (· < w.heap.size) w V1 := by
    have hwW := HK.out.size
    have hz1 := HBX.out.2.2.2.1.size
    have hyw : w.heap.size ≤ y := by rw [← HY.out]; exact hwW
    exact ((HK.out.trans (HBX.out.2.2.2.1.mono fun k h => Nat.lt_of_lt_of_le h hwW)).trans (kV.mono fun k h => Nat.lt_of_lt_of_le h (Nat.le_trans hwW hz1))).trans (k1.mono fun k h => by show k ≠ y; omega)
  have HV1 := Lib.hid hV1
  have H1 := Lib.hid (And.intro hb11 kw1)
  clear hb1V hblV k1 hV1 hb11 kw1 kV hBy q0
  go_upto_region 5 with fail
  rw [HV1.out]
  clear d0 d1 e0 e1
  have z0 := H1.out.1.c0; have z1 := H1.out.1.c1; have f0 := H1.out.1.f0; have f1 := H1.out.1.f1
  have hset := BoxL.set (lv' := (0 : Int)) (a' := none) (n' := 0) (cap' := 0) H1.out.1
  have hkk := (H1.out.2.setCell (p := ⟨B + 1, 0, none⟩) (by simp [HB.out]) (.int .i64 0)).setCell (p := ⟨B + 1, 1, none⟩) (by simp [HB.out]) (.slice none 0 0)
  have HS := Lib.hid (And.intro hset hkk)
  clear hset hkk
  go_wp2_with fail
  try simp only [Exit.inBlock, Exit.then]
  refine bodyPost_ret (results_leaf rfl _ _ (B + 1) _ _ _ _ rfl HS.out.1) rfl ?_
  exact ⟨rfl, HS.out.2⟩

set_option maxHeartbeats 1000000 in
set_option maxRecDepth 100000 in
theorem trBadM {w : World} {s room x c : Nat} {N : List Nd} {D : Nat → Prop} {M : Int → Option (Option Lf9)} (h : IsMm w x c N M) (hS : IsSh w s room N D) (p : Int) (hpw : (Lit.int .i64 p).wf = true) (hb : p < 1 ∨ (N.length : Int) < p) :
    Calls Try.prog 50 #[mmI s x, .int .i64 p] w (BadR w) := by
  have hmf : ∀ (fn : Fn) (first cap : Array Value) (w : World), (Instr.makeFunc fn first cap).run Try.prog w = .ok (.func fn first cap) w := fun _ _ _ _ => rfl
  obtain ⟨W, hW⟩ : ∃ W, (w.alloc (.cells #[.int .i64 0, .slice none 0 0] 27)).alloc (.cells #[.int .i64 0] 32) = W := ⟨_, rfl⟩
  have hk : KeptIn (· < w.heap.size) w W := by rw [← hW]; exact ((KeptIn.refl _ w).alloc (fun _ h => h) _).alloc (fun _ h => h) _
  have HC := Lib.hid (mmBad (h.old hk) (hS.old hk) p hpw hb)
  obtain ⟨b, hx⟩ : ∃ b, w.heap.size = b := ⟨_, rfl⟩
  have hb : BoxL b 0 none 0 0 W := by rw [← hW, ← hx]; exact (BoxL.new w 0 none 0 0).kept ((KeptIn.refl _ _).alloc (fun _ h => h) _) (by simp)
  have hb2 : W.heap[b + 1]? = some (.cells #[.int .i64 0] 32 (0, 0)) := by
    rw [← hW, ← hx, show w.heap.size + 1 = (w.alloc (.cells #[.int .i64 0, .slice none 0 0] 27)).heap.size by simp]
    exact heap_alloc_new _ _
  have HB := Lib.hid (And.intro hb (And.intro hb2 (And.intro hk hx)))
  clear hb hb2 hk hpw hS h
  unfold mmI mmV
  unfold mmV at HC
  go_enter_defers Try.func50, Try.ntmps50
  go_wp2_with (go_at_call 111; refine HC.out.mono ?_)
  rintro e V ⟨rfl, kV⟩
  have hbV := HB.out.1.kept kV HB.out.1.lt
  have hb2V := (kV.block (b + 1) (Array.getElem?_eq_some_iff.1 HB.out.2.1).1).trans HB.out.2.1
  have c0 := hbV.c0; have f0 := hbV.f0; have c1 := hbV.c1; have f1 := hbV.f1
  have c2 : V.cell? ⟨b + 1, 0, none⟩ = some (.int .i64 0) := by simp [World.cell?, hb2V]
  have f2 : V.frozen? ⟨b + 1, 0, none⟩ = false := by simp [World.frozen?, hb2V]
  have hkx : KeptIn (· < w.heap.size) w V := HB.out.2.2.1.trans (kV.mono fun k h => Nat.lt_of_lt_of_le h HB.out.2.2.1.size)
  have HF := Lib.hid (And.intro hbV (And.intro hb2V hkx))
  unfold leafV
  clear hbV hb2V hkx kV
  go_wp2_with fail
  have hset := BoxL.set (lv' := (0 : Int)) (a' := none) (n' := 0) (cap' := 0) HF.out.1
  have hset2 : BoxL b 0 none 0 0 (((V.setCell ⟨b, 0, none⟩ (.int .i64 0)).setCell ⟨b, 1, none⟩ (.slice none 0 0)).setCell ⟨b + 1, 0, none⟩ (.int .i64 9)) := (heap_setCell_other _ _ _ _ (by simp)).trans hset
  have hb2W : ((V.setCell ⟨b, 0, none⟩ (.int .i64 0)).setCell ⟨b, 1, none⟩ (.slice none 0 0)).heap[b + 1]? = some (.cells #[.int .i64 0] 32 (0, 0)) := ((heap_setCell_other _ _ _ _ (by simp)).trans (heap_setCell_other _ _ _ _ (by simp))).trans HF.out.2.1
  have hwb := HB.out.2.2.2
  have hkx := ((HF.out.2.2.setCell (p := ⟨b, 0, none⟩) (by intro h; have h1 : b < w.heap.size := h; omega) (.int .i64 0)).setCell (p := ⟨b, 1, none⟩) (by intro h; have h1 : b < w.heap.size := h; omega) (.slice none 0 0)).setCell (p := ⟨b + 1, 0, none⟩) (by intro h; have h1 : b + 1 < w.heap.size := h; omega) (.int .i64 9)
  have he : (((V.setCell ⟨b, 0, none⟩ (.int .i64 0)).setCell ⟨b, 1, none⟩ (.slice none 0 0)).setCell ⟨b + 1, 0, none⟩ (.int .i64 9)).cell? ⟨b + 1, 0, none⟩ = some (.int .i64 9) := World.cell?_setCell_same' _ _ _ (by
    simp [World.cell?, hb2W])
  obtain ⟨W9, hW9⟩ : ∃ W9, ((V.setCell ⟨b, 0, none⟩ (.int .i64 0)).setCell ⟨b, 1, none⟩ (.slice none 0 0)).setCell ⟨b + 1, 0, none⟩ (.int .i64 9) = W9 := ⟨_, rfl⟩
  rw [hW9] at hset2 hkx he ⊢
  clear hW9
  refine leaves_cons (f := 71) (args := #[.pointer (some ⟨b, 0, none⟩), .pointer (some ⟨b + 1, 0, none⟩)]) (by simp) (by simp [go_sem]) ?_
  refine (trRead1 _ _ _).mono ?_
  rintro e u' w'' ⟨rfl, rfl, rfl⟩
  exact ⟨_, results_leafE rfl _ _ b _ _ _ _ (b + 1) _ rfl rfl hset2 he, rfl, hkx⟩

end Go.Proofs.Ytjollbaohopmjaa
