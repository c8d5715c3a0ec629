import Derived.Test.YtdbohcdjamhdjaaMpW
import Derived.Test.YtdbohcdjamhdjaaV4
import Derived.Deep.Cut
import Derived.Deep.CutRange
import Derived.Test.YtdbohcdjamhdjaaSg9W
/- Package reach's memo: pages that remember their nodes: what it keeps; Read of a node that it has, and of one that it hasn't. -/
set_option linter.unusedVariables false
namespace Go.Proofs.Ytdbohcdjamhdjaa
open Go.RowKit

/-- A node as memo keeps it: level, pairs' block, how many, room. -/
abbrev Lf9 := Int × Nat × Nat × Nat
def lf9 (z : Lf9) : Value := leafV z.1 (some ⟨z.2.1, 0, none⟩) z.2.2.1 z.2.2.2
/-- The zero of a map's element, too. -/
def lfV9 : Option Lf9 → Value
  | none => leafV 0 none 0 0
  | some z => lf9 z
theorem lfV9_inj (a b : Option Lf9) (h : lfV9 a = lfV9 b) : a = b := by
  cases a with
  | none => cases b with
    | none => rfl
    | some y =>
      obtain ⟨l, g, n, c⟩ := y
      simp [lfV9, lf9, leafV] at h
  | some x => cases b with
    | none =>
      obtain ⟨l, g, n, c⟩ := x
      simp [lfV9, lf9, leafV] at h
    | some y =>
      obtain ⟨l, g, n, c⟩ := x
      obtain ⟨l', g', n', c'⟩ := y
      simp [lfV9, lf9, leafV] at h
      obtain ⟨rfl, rfl, rfl, rfl⟩ := h
      rfl
theorem zeroLeaf9 (w : World) : (zeroValue 27).run Try.prog w = .ok (lfV9 none) w := by
  have : (zeroValue 27).run Try.prog w = .ok (.agg #[.int .i64 0, .slice none 0 0]) w := by kernel_rfl
  rw [this]
  rfl

/-- memo as pages. -/
def mmV (s x : Nat) : Value := .agg #[pgV s, .map (some x)]
def mmI (s x : Nat) : Value := .iface 66 (mmV s x)

/-- What memo keeps (its map lies in block x): nodes of the Shelf. -/
structure IsMm (W : World) (x c : Nat) (N : List Nd) (M : Int → Option (Option Lf9)) : Prop where
  map : MpAt lfV9 x c M W
  node : ∀ p z, M p = some z → ∃ (i : Nat) (h : i < N.length) (g cap : Nat), p = ((i + 1 : Nat) : Int) ∧ z = some ((N[i].1 : Int), g, N[i].2.length, cap) ∧ IsPs W (some ⟨g, 0, none⟩) N[i].2 ∧ TyC W g N[i].2.length cap

section
variable {W W' : World} {x c : Nat} {N : List Nd} {M : Int → Option (Option Lf9)}
theorem IsMm.lt (h : IsMm W x c N M) : x < W.heap.size := h.map.lt
theorem IsMm.old (h : IsMm W x c N M) (hk : KeptIn (· < W.heap.size) W W') : IsMm W' x c N M :=
  ⟨h.map.kept hk h.lt, fun p z hz => by
    obtain ⟨i, hi, g, cap, h1, h2, h3, h4⟩ := h.node p z hz
    exact ⟨i, hi, g, cap, h1, h2, h3.old hk, h4.old hk⟩⟩
theorem TyP.ne_map (h : TyP W x) {b n : Nat} {α : Type} {V : α → Value} {M : Int → Option α} (k : MpAt V b n M W) : x ≠ b := by
  obtain ⟨cs, fr, h⟩ := h
  exact k.ne h
theorem psNotMap {α : Type} {V : α → Value} {n : Nat} {M : Int → Option α} {a : Option Addr} {ps : Pairs} (h : IsPs W a ps) (h0 : 0 < ps.length) (k : MpAt V x n M W) (hk : KeptIn (fun j => j < W.heap.size ∧ j ≠ x) W W') : IsPs W' a ps :=
  ⟨h.len, h.fits, fun hp => by
    obtain ⟨b, off, e, hb, hc⟩ := h.cells hp
    have hn : b ≠ x := fun e2 => by
      obtain ⟨u0, _⟩ := hc 0 hp
      subst e2
      obtain ⟨D, ⟨es, clock, h1, _⟩, _⟩ := k
      simp [World.cell?, h1] at u0
    exact ⟨b, off, e, Nat.lt_of_lt_of_le hb hk.size, fun i hi => ⟨(World.cell?_of_block (a := ⟨b, off + i * 2, none⟩) (hk.block b ⟨hb, hn⟩)).trans (hc i hi).1, (World.cell?_of_block (a := ⟨b, off + i * 2 + 1, none⟩) (hk.block b ⟨hb, hn⟩)).trans (hc i hi).2⟩⟩⟩
end

/-- What Read leaves, where memo has the node. -/
def MmH (w : World) (z : Lf9) (e : Ending) (w' : World) : Prop :=
  e = .returned (.tuple #[lf9 z, .int .i64 0]) ∧ KeptIn (· < w.heap.size) w w'

set_option maxHeartbeats 1000000 in
set_option maxRecDepth 100000 in
theorem mmReadHas {w : World} {s x c : Nat} {N : List Nd} {M : Int → Option (Option Lf9)} (h : IsMm w x c N M) (p : Int) (hp : (Lit.int .i64 p).wf = true) (z : Lf9) (hz : M p = some (some z)) :
    Calls Try.prog 121 #[mmV s x, .int .i64 p] w (MmH w z) := by
  obtain ⟨W, hW⟩ : ∃ W, (w.alloc (.cells #[pgV s, .map (some x)] 66)).alloc (.cells #[.int .i64 0, .slice none 0 0] 27) = W := ⟨_, rfl⟩
  have hk : KeptIn (· < w.heap.size) w W := by rw [← hW]; exact ((KeptIn.refl _ w).alloc (fun _ h => h) _).alloc (fun _ h => h) _
  have hlk := ((h.old hk).map.look lfV9_inj Try.underlying64 none (zeroLeaf9 W) p hp).1
  rw [hz] at hlk
  obtain ⟨lv, g, n, cap⟩ := z
  obtain ⟨B, hB⟩ : ∃ B, w.heap.size = B := ⟨_, rfl⟩
  have b0 : W.heap[B]? = some (.cells #[pgV s, .map (some x)] 66 (0, 0)) := by
    rw [← hW, ← hB, Lib.alloc_old _ _ _ (by simp)]
    exact heap_alloc_new w _
  have b1 : BoxL (B + 1) 0 none 0 0 W := by
    have := BoxL.new (w.alloc (.cells #[pgV s, .map (some x)] 66)) 0 none 0 0
    rw [World.size_alloc, hB, hW] at this
    exact this
  have c1 : W.cell? ⟨B, 1, none⟩ = some (.map (some x)) := by simp [World.cell?, b0]
  have HW := Lib.hid hW; have HK := Lib.hid hk; have HB := Lib.hid hB; have HB1 := Lib.hid b1
  simp only [lfV9, lf9, Option.getD_some, Option.isSome_some] at hlk
  unfold leafV at hlk
  unfold pgV at *
  unfold mmV pgV
  clear h hz hk hW b0 b1 hB
  go_enter Try.func121, Try.ntmps121
  go_upto_region 1 with fail
  rw [HW.out, HB.out]
  go_upto_region 2 with fail
  have hkX : KeptIn (· < W.heap.size) W (W.alloc (.cells #[.int .i64 lv, .slice (some ⟨g, 0, none⟩) n cap] 27)) := (KeptIn.refl _ W).alloc (fun _ h => h) _
  have hbl := BoxL.new W lv (some ⟨g, 0, none⟩) n cap
  have hb1 := HB1.out.kept hkX HB1.out.lt
  obtain ⟨X, hX⟩ : ∃ X, W.alloc (.cells #[.int .i64 lv, .slice (some ⟨g, 0, none⟩) n cap] 27) = X := ⟨_, rfl⟩
  obtain ⟨y, hy⟩ : ∃ y, W.heap.size = y := ⟨_, rfl⟩
  rw [hX] at hkX hbl hb1 ⊢
  rw [hy] at hbl ⊢
  have d0 := hbl.c0; have d1 := hbl.c1
  have z0 := hb1.c0; have z1 := hb1.c1; have f0 := hb1.f0; have f1 := hb1.f1
  have hset := BoxL.set (lv' := lv) (a' := some ⟨g, 0, none⟩) (n' := n) (cap' := cap) hb1
  have hkk := ((HK.out.trans (hkX.mono fun k hk => Nat.lt_of_lt_of_le hk HK.out.size)).setCell (p := ⟨B + 1, 0, none⟩) (by simp [HB.out]) (.int .i64 lv)).setCell (p := ⟨B + 1, 1, none⟩) (by simp [HB.out]) (.slice (some ⟨g, 0, none⟩) n cap)
  have HS := Lib.hid (And.intro hset hkk)
  clear hkX hbl hb1 hX hy hset hkk c1 hlk
  go_wp2_with fail
  try simp only [Exit.inBlock, Exit.then]
  refine bodyPost_ret (results_leaf rfl _ _ (B + 1) _ _ _ _ rfl HS.out.1) rfl ?_
  exact ⟨rfl, HS.out.2⟩

end Go.Proofs.Ytdbohcdjamhdjaa
/- Package reach's memo: Read of a node that it hasn't yet. -/
set_option linter.unusedVariables false
namespace Go.Proofs.Ytdbohcdjamhdjaa
open Go.RowKit

/-- What Read leaves, where memo hadn't the node: it is kept. -/
def MmN (w : World) (x c : Nat) (N : List Nd) (M : Int → Option (Option Lf9)) (p lv : Int) (ps : Pairs) (e : Ending) (w' : World) : Prop :=
  ∃ (g cap : Nat), e = .returned (.tuple #[leafV lv (some ⟨g, 0, none⟩) ps.length cap, .int .i64 0]) ∧ IsMm w' x (c + 1) N (mpPut M p (some (lv, g, ps.length, cap))) ∧ w.heap.size ≤ g ∧ KeptIn (fun j => j < w.heap.size ∧ j ≠ x) w w'

theorem IsMm.set {W : World} {x c b n cap : Nat} {N : List Nd} {M : Int → Option (Option Lf9)} {lv : Int} {a : Option Addr} (h : IsMm W x c N M) (hb : BoxL b lv a n cap W) (j : Nat) (v : Value) : IsMm (W.setCell ⟨b, j, none⟩ v) x c N M := by
  have hk : KeptIn (· ≠ b) W (W.setCell ⟨b, j, none⟩ v) := (KeptIn.refl _ W).setCell (p := ⟨b, j, none⟩) (by simp) _
  have hne : ∀ g, TyP W g → g ≠ b := fun g hg e => by
    obtain ⟨cs, fr, h1⟩ := hg
    rw [e, show W.heap[b]? = _ from hb] at h1
    simp only [Option.some.injEq, Obj.cells.injEq] at h1
    exact absurd h1.2.1 (by decide)
  refine ⟨h.map.kept hk (fun e => h.map.ne (show W.heap[b]? = _ from hb) e.symm), fun p z hz => ?_⟩
  obtain ⟨i, hi, g, cap', q1, q2, q3, q4⟩ := h.node p z hz
  have hg := hne g q4.1
  exact ⟨i, hi, g, cap', q1, q2, psSet q3 ⟨b, j, none⟩ v (fun q e => by cases e; exact hg), q4.set ⟨b, j, none⟩ v hg⟩

theorem mpPut_self {α : Type} (M : Int → Option α) (p : Int) (z : α) : mpPut M p z p = some z := by unfold mpPut; rw [if_pos rfl]

set_option maxHeartbeats 2000000 in
set_option maxRecDepth 100000 in
theorem mmReadNew {w : World} {s room x c : Nat} {N : List Nd} {D : Nat → Prop} {M : Int → Option (Option Lf9)} (h : IsMm w x c N M) (hS : IsSh w s room N D) (hc : c < 100000) (i : Nat) (hi : i < N.length) (hf : Fits N[i].2) (hz : M ((i + 1 : Nat) : Int) = none) :
    Calls Try.prog 121 #[mmV s x, .int .i64 ((i + 1 : Nat) : Int)] w (MmN w x c N M ((i + 1 : Nat) : Int) (N[i].1 : Int) N[i].2) := by
  have hpos := hS.pos i hi
  have hlen := hS.len
  obtain ⟨p, hp⟩ : ∃ p : Int, ((i + 1 : Nat) : Int) = p := ⟨_, rfl⟩
  have hpw : (Lit.int .i64 p).wf = true := by
    rw [← hp]
    simp [Lit.wf, IntKind.min, IntKind.max, IntKind.signed, IntKind.bits]
    omega
  obtain ⟨W, hW⟩ : ∃ W, (w.alloc (.cells #[pgV s, .map (some x)] 66)).alloc (.cells #[.int .i64 0, .slice none 0 0] 27) = W := ⟨_, rfl⟩
  have hk : KeptIn (· < w.heap.size) w W := by rw [← hW]; exact ((KeptIn.refl _ w).alloc (fun _ h => h) _).alloc (fun _ h => h) _
  rw [hp] at hz ⊢
  have hlk := ((h.old hk).map.look lfV9_inj Try.underlying64 none (zeroLeaf9 W) p hpw).1
  rw [hz] at hlk
  obtain ⟨B, hB⟩ : ∃ B, w.heap.size = B := ⟨_, rfl⟩
  have b0 : W.heap[B]? = some (.cells #[pgV s, .map (some x)] 66 (0, 0)) := by
    rw [← hW, ← hB, Lib.alloc_old _ _ _ (by simp)]
    exact heap_alloc_new w _
  have b1 : BoxL (B + 1) 0 none 0 0 W := by
    have := BoxL.new (w.alloc (.cells #[pgV s, .map (some x)] 66)) 0 none 0 0
    rw [World.size_alloc, hB, hW] at this
    exact this
  have c1 : W.cell? ⟨B, 1, none⟩ = some (.map (some x)) := by simp [World.cell?, b0]
  have hkX : KeptIn (· < W.heap.size) W (W.alloc (.cells #[.int .i64 0, .slice none 0 0] 27)) := (KeptIn.refl _ W).alloc (fun _ h => h) _
  have hbl := BoxL.new W 0 none 0 0
  obtain ⟨X, hX⟩ : ∃ X, W.alloc (.cells #[.int .i64 0, .slice none 0 0] 27) = X := ⟨_, rfl⟩
  obtain ⟨y, hy⟩ : ∃ y, W.heap.size = y := ⟨_, rfl⟩
  rw [hX] at hkX hbl
  rw [hy] at hbl
  have CR := shRead (hS.old (hk.trans (hkX.mono fun k h => Nat.lt_of_lt_of_le h hk.size))) i hi
  rw [hp] at CR
  obtain ⟨lv, hlv⟩ : ∃ lv : Int, (N[i].1 : Int) = lv := ⟨_, rfl⟩
  obtain ⟨ps, hps⟩ : ∃ ps, N[i].2 = ps := ⟨_, rfl⟩
  rw [hlv, hps] at CR ⊢
  rw [hps] at hpos hf
  have hBy : B + 1 < y := by rw [← hy]; exact b1.lt
  have hb0X := (hkX.block B (Array.getElem?_eq_some_iff.1 b0).1).trans b0
  have hb1X := b1.kept hkX b1.lt
  have HW := Lib.hid hW; have HK := Lib.hid hk; have HB := Lib.hid hB; have HX := Lib.hid hX; have HY := Lib.hid hy
  have HC := Lib.hid CR
  have HBX := Lib.hid (And.intro hb0X (And.intro hb1X (And.intro hbl (And.intro hkX hBy))))
  have HSP : Hid (∀ i (h : i < N.length), 0 < N[i].2.length) := Lib.hid fun i h => (hS.pos i h).1
  have HI := Lib.hid (And.intro h (And.intro hc (And.intro hi (And.intro hlv (And.intro hps (And.intro hp (And.intro hpw (And.intro hpos hf))))))))
  have q0 : X.cell? ⟨B, 0, none⟩ = some (pgV s) := by simp [World.cell?, hb0X]
  simp only [lfV9, Option.getD_none, Option.isSome_none] at hlk
  unfold leafV at hlk
  unfold pgV at *
  unfold mmV pgV
  clear h hz hk hW b0 b1 hB hX hy hkX hbl CR hlv hps hpos hf hb0X hb1X hS hp hpw hBy hlen
  go_enter Try.func121, Try.ntmps121
  go_upto_region 1 with fail
  rw [HW.out, HB.out]
  go_upto_region 2 with fail
  rw [HX.out, HY.out]
  clear c1 hlk
  go_wp2_with (go_at_call 118; refine HC.out.mono ?_)
  rintro e V hR
  obtain ⟨g0, cg, rfl, hpV, hg0, kV, _⟩ := hR
  have hb0V := (kV.block B (Array.getElem?_eq_some_iff.1 HBX.out.1).1).trans HBX.out.1
  have hb1V := HBX.out.2.1.kept kV HBX.out.2.1.lt
  have hblV := HBX.out.2.2.1.kept kV HBX.out.2.2.1.lt
  have hyX := HBX.out.2.2.1.lt
  have hgy : g0 ≠ y := by omega
  obtain ⟨m, hm⟩ : ∃ m, ps.length = m := ⟨_, rfl⟩
  unfold leafV
  rw [hm]
  have d0 := hblV.c0; have d1 := hblV.c1; have e0 := hblV.f0; have e1 := hblV.f1
  have hset1 := BoxL.set (lv' := lv) (a' := some ⟨g0, 0, none⟩) (n' := m) (cap' := cg) hblV
  have hps1 := psSet (psSet hpV ⟨y, 0, none⟩ (.int .i64 lv) (fun q h => by cases h; exact hgy)) ⟨y, 1, none⟩ (.slice (some ⟨g0, 0, none⟩) m cg) (fun q h => by cases h; exact hgy)
  have k1 : KeptIn (· ≠ y) V ((V.setCell ⟨y, 0, none⟩ (.int .i64 lv)).setCell ⟨y, 1, none⟩ (.slice (some ⟨g0, 0, none⟩) m cg)) := ((KeptIn.refl _ V).setCell (p := ⟨y, 0, none⟩) (by simp) _).setCell (p := ⟨y, 1, none⟩) (by simp) _
  obtain ⟨V1, hV1⟩ : ∃ V1, (V.setCell ⟨y, 0, none⟩ (.int .i64 lv)).setCell ⟨y, 1, none⟩ (.slice (some ⟨g0, 0, none⟩) m cg) = V1 := ⟨_, rfl⟩
  rw [hV1] at hset1 hps1 k1
  have hBy := HBX.out.2.2.2.2
  have hb01 := (k1.block B (by omega)).trans hb0V
  have hb11 := hb1V.kept k1 (by omega)
  have kw1 : KeptIn (· < w.heap.size) w V1 := by
    have hwW := HK.out.size
    have hz1 := HBX.out.2.2.2.1.size
    have hyw : w.heap.size ≤ y := by rw [← HY.out]; exact hwW
    exact ((HK.out.trans (HBX.out.2.2.2.1.mono fun k h => Nat.lt_of_lt_of_le h hwW)).trans (kV.mono fun k h => Nat.lt_of_lt_of_le h (Nat.le_trans hwW hz1))).trans (k1.mono fun k h => by show k ≠ y; omega)
  have HCL := Lib.hid (pClone (some ⟨g0, 0, none⟩) cg ps V1 hps1 HI.out.2.2.2.2.2.2.2.1.1 (by have := HI.out.2.2.2.2.2.2.2.1.2; omega))
  have HV1 := Lib.hid hV1
  have H1 := Lib.hid (And.intro hset1 (And.intro hb01 (And.intro hb11 kw1)))
  have HM := Lib.hid (And.intro hm hBy)
  clear hb0V hb1V hblV hyX hgy hset1 hps1 k1 hV1 hb01 hb11 kw1 hpV hg0 kV hm hBy q0
  go_upto_region 7 with fail
  rw [HV1.out]
  have d2 := H1.out.1.c1
  have HCL2 := HCL.out
  rw [HM.out.1] at HCL2
  clear d0 d1 e0 e1
  go_wp2_with (go_at_call 78; refine HCL2.mono ?_)
  rintro e V2 hR
  unfold CloneS at hR
  obtain ⟨g1, cap1, rfl, hrow, k2⟩ := hR
  have hbl2 := H1.out.1.kept k2 H1.out.1.lt
  have hb02 := (k2.block B (Array.getElem?_eq_some_iff.1 H1.out.2.1).1).trans H1.out.2.1
  have hb12 := H1.out.2.2.1.kept k2 H1.out.2.2.1.lt
  have hkw2 := H1.out.2.2.2.trans (k2.mono fun k h => Nat.lt_of_lt_of_le h H1.out.2.2.2.size)
  have hps2 := row_IsPs hrow HI.out.2.2.2.2.2.2.2.2
  have hg1 : V1.heap.size ≤ g1 := by
    rcases hrow.2 with ⟨e, _⟩ | ⟨g, c2, cur, e, hB2, _⟩
    · cases e
    · simp only [Value.slice.injEq, Option.some.injEq, Addr.mk.injEq, and_true, true_and] at e
      omega
  have hyV1 := H1.out.1.lt
  have hgy1 : g1 ≠ y := by omega
  have hty2 : TyC V2 g1 ps.length cap1 := ⟨row_TyP hrow, row_cap hrow⟩
  rw [HM.out.1]
  have d1 := hbl2.c1; have e1 := hbl2.f1
  have hset3 : BoxL y lv (some ⟨g1, 0, none⟩) m cap1 (V2.setCell ⟨y, 1, none⟩ (.slice (some ⟨g1, 0, none⟩) m cap1)) := (heap_setCell_same _ _ _ _ _ _ hbl2).trans rfl
  have hps3 := psSet hps2 ⟨y, 1, none⟩ (.slice (some ⟨g1, 0, none⟩) m cap1) (fun q h => by cases h; exact hgy1)
  have hty3 := hty2.set ⟨y, 1, none⟩ (.slice (some ⟨g1, 0, none⟩) m cap1) hgy1
  have k3 : KeptIn (· ≠ y) V2 (V2.setCell ⟨y, 1, none⟩ (.slice (some ⟨g1, 0, none⟩) m cap1)) := (KeptIn.refl _ V2).setCell (p := ⟨y, 1, none⟩) (by simp) _
  obtain ⟨V3, hV3⟩ : ∃ V3, V2.setCell ⟨y, 1, none⟩ (.slice (some ⟨g1, 0, none⟩) m cap1) = V3 := ⟨_, rfl⟩
  rw [hV3] at hset3 hps3 hty3 k3
  have hBy := HM.out.2
  have hb03 := (k3.block B (by omega)).trans hb02
  have hb13 := hb12.kept k3 (by omega)
  have hyw : w.heap.size ≤ y := by rw [← HY.out]; exact HK.out.size
  have kw3 := hkw2.trans (k3.mono (Y := (· < w.heap.size)) fun k h => by show k ≠ y; omega)
  have hM3 := HI.out.1.old kw3
  obtain ⟨w4, hrun, hmp, hk4, hsz⟩ := hM3.map.store lfV9_inj Try.underlying64 (by have := HI.out.2.1; unfold maxLen; omega) p HI.out.2.2.2.2.2.2.1 (some (lv, g1, m, cap1))
  simp only [lfV9, lf9] at hrun
  unfold leafV at hrun
  have hxlt := HI.out.1.lt
  have hBw := HB.out
  have hb14 := hb13.kept hk4 (by omega)
  have hbl4 := hset3.kept hk4 (by omega)
  have hps4 := psNotMap hps3 HI.out.2.2.2.2.2.2.2.1.1 hM3.map (hk4.mono fun k h => h.2)
  have hgx : g1 ≠ x := by have := H1.out.2.2.2.size; omega
  have hty4 : TyC w4 g1 ps.length cap1 := ⟨hty3.1.kept (hk4.block g1 hgx), hty3.2⟩
  have hMm : IsMm w4 x (c + 1) N (mpPut M p (some (lv, g1, ps.length, cap1))) := by
    refine ⟨by rw [HM.out.1]; exact hmp, fun p' z' hz' => ?_⟩
    unfold mpPut at hz'
    by_cases ep : p' = p
    · rw [if_pos ep] at hz'
      cases hz'
      have q1 : (N[i].1 : Int) = lv := HI.out.2.2.2.1
      have q2 : N[i].2 = ps := HI.out.2.2.2.2.1
      exact ⟨i, hi, g1, cap1, by rw [ep]; exact HI.out.2.2.2.2.2.1.symm, by rw [q1, q2], by rw [q2]; exact hps4, by rw [q2]; exact hty4⟩
    · rw [if_neg ep] at hz'
      obtain ⟨i', hi', g', cap', q1, q2, q3, q4⟩ := hM3.node p' z' hz'
      have hp0 : 0 < N[i'].2.length := HSP.out i' hi'
      refine ⟨i', hi', g', cap', q1, q2, psNotMap q3 hp0 hM3.map (hk4.mono fun k h => h.2), ⟨q4.1.kept (hk4.block g' (q4.1.ne_map hM3.map)), q4.2⟩⟩
  have kw4 : KeptIn (fun j => j < w.heap.size ∧ j ≠ x) w w4 := (kw3.mono fun k h => h.1).trans (hk4.mono fun k h => h.2)
  have HV3 := Lib.hid hV3
  have HR := Lib.hid hrun
  have c8 : V3.cell? ⟨B, 1, none⟩ = some (.map (some x)) := by simp [World.cell?, hb03]
  have d3 := hset3.c0; have d4 := hset3.c1
  have H4 := Lib.hid (And.intro hb14 (And.intro hbl4 (And.intro hMm (And.intro kw4 (show w.heap.size ≤ g1 by have := H1.out.2.2.2.size; omega)))))
  clear hps2 hg1 hyV1 hgy1 hty2 hset3 hps3 hty3 k3 hV3 hBy hb03 hb13 hyw kw3 hM3 hrun hmp hk4 hsz hb14 hbl4 hps4 hgx hty4 hMm kw4 hbl2 hb02 hb12 hkw2 hrow k2 HCL2 d2 hxlt hBw
  go_upto_region 8 with fail
  rw [HV3.out]
  clear d1 e1
  have hr2 := HR.out
  go_upto_region 9 with fail
  clear hr2 c8 d3 d4
  have d0 := H4.out.2.1.c0; have d1 := H4.out.2.1.c1
  have z0 := H4.out.1.c0; have z1 := H4.out.1.c1; have f0 := H4.out.1.f0; have f1 := H4.out.1.f1
  have hset := BoxL.set (lv' := lv) (a' := some ⟨g1, 0, none⟩) (n' := m) (cap' := cap1) H4.out.1
  have hs0 : BoxL (B + 1) lv none 0 0 (w4.setCell ⟨B + 1, 0, none⟩ (.int .i64 lv)) := (heap_setCell_same _ _ _ _ _ _ H4.out.1).trans rfl
  have hm5 := (H4.out.2.2.1.set H4.out.1 0 (.int .i64 lv)).set hs0 1 (.slice (some ⟨g1, 0, none⟩) m cap1)
  have hk5 := (H4.out.2.2.2.1.setCell (p := ⟨B + 1, 0, none⟩) (by intro h; have h1 : B + 1 < w.heap.size := h.1; rw [HB.out] at h1; omega) (.int .i64 lv)).setCell (p := ⟨B + 1, 1, none⟩) (by intro h; have h1 : B + 1 < w.heap.size := h.1; rw [HB.out] at h1; omega) (.slice (some ⟨g1, 0, none⟩) m cap1)
  have HB2 := Lib.hid (And.intro hset (And.intro hm5 hk5))
  clear hset hs0 hm5 hk5
  go_wp2_with fail
  try simp only [Exit.inBlock, Exit.then]
  refine bodyPost_ret (results_leaf rfl _ _ (B + 1) _ _ _ _ rfl HB2.out.1) rfl ?_
  unfold MmN
  exact ⟨g1, cap1, by rw [HM.out.1]; rfl, HB2.out.2.1, H4.out.2.2.2.2, HB2.out.2.2⟩

end Go.Proofs.Ytdbohcdjamhdjaa
/- Package reach's memo: Read, whichever; package tree's read of it. -/
set_option linter.unusedVariables false
namespace Go.Proofs.Ytdbohcdjamhdjaa
open Go.RowKit

theorem IsMm.setE {W : World} {x c b : Nat} {N : List Nd} {M : Int → Option (Option Lf9)} {cs : Array Value} {fr : Nat × Nat} (h : IsMm W x c N M) (hb : W.heap[b]? = some (.cells cs 32 fr)) (j : Nat) (v : Value) : IsMm (W.setCell ⟨b, j, none⟩ v) x c N M := by
  have hk : KeptIn (· ≠ b) W (W.setCell ⟨b, j, none⟩ v) := (KeptIn.refl _ W).setCell (p := ⟨b, j, none⟩) (by simp) _
  have hne : ∀ g, TyP W g → g ≠ b := fun g hg e => by
    obtain ⟨cs, fr, h1⟩ := hg
    rw [e, hb] at h1
    simp only [Option.some.injEq, Obj.cells.injEq] at h1
    exact absurd h1.2.1 (by decide)
  refine ⟨h.map.kept hk (fun e => h.map.ne hb e.symm), fun p z hz => ?_⟩
  obtain ⟨i, hi, g, cap', q1, q2, q3, q4⟩ := h.node p z hz
  have hg := hne g q4.1
  exact ⟨i, hi, g, cap', q1, q2, psSet q3 ⟨b, j, none⟩ v (fun q e => by cases e; exact hg), q4.set ⟨b, j, none⟩ v hg⟩

/-- What a reading leaves: the node is kept, and what was kept is as it was. -/
def MmR (w : World) (x c : Nat) (N : List Nd) (M : Int → Option (Option Lf9)) (p lv : Int) (ps : Pairs) (e : Ending) (w' : World) : Prop :=
  ∃ (g cap c' : Nat) (M' : Int → Option (Option Lf9)), e = .returned (.tuple #[leafV lv (some ⟨g, 0, none⟩) ps.length cap, .int .i64 0]) ∧ IsMm w' x c' N M' ∧ M' p = some (some (lv, g, ps.length, cap)) ∧
    (∀ q, q ≠ p → M' q = M q) ∧ c' ≤ c + 1 ∧ KeptIn (fun j => j < w.heap.size ∧ j ≠ x) w w'

theorem mmRead {w : World} {s room x c : Nat} {N : List Nd} {D : Nat → Prop} {M : Int → Option (Option Lf9)} (h : IsMm w x c N M) (hS : IsSh w s room N D) (hc : c < 100000) (i : Nat) (hi : i < N.length) (hf : Fits N[i].2) :
    Calls Try.prog 121 #[mmV s x, .int .i64 ((i + 1 : Nat) : Int)] w (MmR w x c N M ((i + 1 : Nat) : Int) (N[i].1 : Int) N[i].2) := by
  cases hz : M ((i + 1 : Nat) : Int) with
  | none =>
    refine (mmReadNew h hS hc i hi hf hz).mono ?_
    rintro e w' ⟨g, cap, rfl, h1, h2, h3⟩
    exact ⟨g, cap, c + 1, _, rfl, h1, mpPut_self _ _ _, fun q hq => by unfold mpPut; rw [if_neg hq], Nat.le_refl _, h3⟩
  | some z =>
    obtain ⟨i', hi', g, cap, q1, q2, q3, q4⟩ := h.node _ z hz
    obtain rfl : i = i' := by omega
    subst q2
    refine (mmReadHas h _ (by
      have := hS.len
      simp [Lit.wf, IntKind.min, IntKind.max, IntKind.signed, IntKind.bits]
      omega) _ hz).mono ?_
    rintro e w' ⟨rfl, hk⟩
    exact ⟨g, cap, c, M, rfl, h.old hk, hz, fun _ _ => rfl, Nat.le_succ _, hk.mono fun k h => h.1⟩

set_option maxHeartbeats 1000000 in
set_option maxRecDepth 100000 in
theorem trReadM {w : World} {s room x c : Nat} {N : List Nd} {D : Nat → Prop} {M : Int → Option (Option Lf9)} (h : IsMm w x c N M) (hS : IsSh w s room N D) (hc : c < 100000) (i : Nat) (hi : i < N.length) (hf : Fits N[i].2) :
    Calls Try.prog 69 #[mmI s x, .int .i64 ((i + 1 : Nat) : Int)] w (MmR w x c N M ((i + 1 : Nat) : Int) (N[i].1 : Int) N[i].2) := by
  have hmf : ∀ (fn : Fn) (first cap : Array Value) (w : World), (Instr.makeFunc fn first cap).run Try.prog w = .ok (.func fn first cap) w := fun _ _ _ _ => rfl
  obtain ⟨W, hW⟩ : ∃ W, (w.alloc (.cells #[.int .i64 0, .slice none 0 0] 27)).alloc (.cells #[.int .i64 0] 32) = W := ⟨_, rfl⟩
  have hk : KeptIn (· < w.heap.size) w W := by rw [← hW]; exact ((KeptIn.refl _ w).alloc (fun _ h => h) _).alloc (fun _ h => h) _
  have C := mmRead (h.old hk) (hS.old hk) hc i hi hf
  obtain ⟨p, hp⟩ : ∃ p : Int, ((i + 1 : Nat) : Int) = p := ⟨_, rfl⟩
  obtain ⟨lv, hlv⟩ : ∃ lv : Int, (N[i].1 : Int) = lv := ⟨_, rfl⟩
  obtain ⟨ps, hpe⟩ : ∃ ps, N[i].2 = ps := ⟨_, rfl⟩
  rw [hp, hlv, hpe] at C
  rw [hp, hlv, hpe]
  have HC := Lib.hid C
  have HXL := Lib.hid h.lt
  obtain ⟨b, hx⟩ : ∃ b, w.heap.size = b := ⟨_, rfl⟩
  have hb : BoxL b 0 none 0 0 W := by rw [← hW, ← hx]; exact (BoxL.new w 0 none 0 0).kept ((KeptIn.refl _ _).alloc (fun _ h => h) _) (by simp)
  have hb2 : W.heap[b + 1]? = some (.cells #[.int .i64 0] 32 (0, 0)) := by
    rw [← hW, ← hx, show w.heap.size + 1 = (w.alloc (.cells #[.int .i64 0, .slice none 0 0] 27)).heap.size by simp]
    exact heap_alloc_new _ _
  have HB := Lib.hid (And.intro hb (And.intro hb2 (And.intro hk hx)))
  clear C hb hb2 hk hp hlv hpe hf hi hS h
  unfold mmI mmV
  unfold mmV at HC
  go_enter_defers Try.func69, Try.ntmps69
  go_wp2_with (go_at_call 121; refine HC.out.mono ?_)
  rintro e V hR
  unfold MmR at hR
  obtain ⟨g, cap, c', M', rfl, hm, hM, hq, hc', kV⟩ := hR
  have hbx : b ≠ x := fun e => by have := HXL.out; have := HB.out.2.2.2; omega
  have hbx1 : b + 1 ≠ x := fun e => by have := HXL.out; have := HB.out.2.2.2; omega
  have hbV := HB.out.1.kept kV ⟨HB.out.1.lt, hbx⟩
  have hb2V := (kV.block (b + 1) ⟨(Array.getElem?_eq_some_iff.1 HB.out.2.1).1, hbx1⟩).trans HB.out.2.1
  have c0 := hbV.c0; have f0 := hbV.f0; have c1 := hbV.c1; have f1 := hbV.f1
  have c2 : V.cell? ⟨b + 1, 0, none⟩ = some (.int .i64 0) := by simp [World.cell?, hb2V]
  have f2 : V.frozen? ⟨b + 1, 0, none⟩ = false := by simp [World.frozen?, hb2V]
  have hkx : KeptIn (fun j => j < w.heap.size ∧ j ≠ x) w V := (HB.out.2.2.1.mono fun k h => h.1).trans (kV.mono fun k h => ⟨Nat.lt_of_lt_of_le h.1 HB.out.2.2.1.size, h.2⟩)
  have HF := Lib.hid (And.intro hbV (And.intro hb2V (And.intro hm (And.intro hkx (And.intro hM (And.intro hq hc'))))))
  obtain ⟨m, hml⟩ : ∃ m, ps.length = m := ⟨_, rfl⟩
  have HML := Lib.hid hml
  unfold leafV
  rw [hml]
  clear hbV hb2V hm hkx kV hM hq hc' hml hbx hbx1
  go_wp2_with fail
  have hs0 : BoxL b lv none 0 0 (V.setCell ⟨b, 0, none⟩ (.int .i64 lv)) := (heap_setCell_same _ _ _ _ _ _ HF.out.1).trans rfl
  have hset := BoxL.set (lv' := lv) (a' := some ⟨g, 0, none⟩) (n' := m) (cap' := cap) HF.out.1
  have hm5 := (HF.out.2.2.1.set HF.out.1 0 (.int .i64 lv)).set hs0 1 (.slice (some ⟨g, 0, none⟩) m cap)
  have hset2 : BoxL b lv (some ⟨g, 0, none⟩) m cap (((V.setCell ⟨b, 0, none⟩ (.int .i64 lv)).setCell ⟨b, 1, none⟩ (.slice (some ⟨g, 0, none⟩) m cap)).setCell ⟨b + 1, 0, none⟩ (.int .i64 0)) := (heap_setCell_other _ _ _ _ (by simp)).trans hset
  have hb2W : ((V.setCell ⟨b, 0, none⟩ (.int .i64 lv)).setCell ⟨b, 1, none⟩ (.slice (some ⟨g, 0, none⟩) m cap)).heap[b + 1]? = some (.cells #[.int .i64 0] 32 (0, 0)) := ((heap_setCell_other _ _ _ _ (by simp)).trans (heap_setCell_other _ _ _ _ (by simp))).trans HF.out.2.1
  have hm6 := hm5.setE hb2W 0 (.int .i64 0)
  have hwb := HB.out.2.2.2
  have hkx := ((HF.out.2.2.2.1.setCell (p := ⟨b, 0, none⟩) (by intro h; have h1 : b < w.heap.size := h.1; omega) (.int .i64 lv)).setCell (p := ⟨b, 1, none⟩) (by intro h; have h1 : b < w.heap.size := h.1; omega) (.slice (some ⟨g, 0, none⟩) m cap)).setCell (p := ⟨b + 1, 0, none⟩) (by intro h; have h1 : b + 1 < w.heap.size := h.1; omega) (.int .i64 0)
  have he : (((V.setCell ⟨b, 0, none⟩ (.int .i64 lv)).setCell ⟨b, 1, none⟩ (.slice (some ⟨g, 0, none⟩) m cap)).setCell ⟨b + 1, 0, none⟩ (.int .i64 0)).cell? ⟨b + 1, 0, none⟩ = some (.int .i64 0) := World.cell?_setCell_same' _ _ _ (by
    simp [World.cell?, hb2W])
  obtain ⟨W9, hW9⟩ : ∃ W9, ((V.setCell ⟨b, 0, none⟩ (.int .i64 lv)).setCell ⟨b, 1, none⟩ (.slice (some ⟨g, 0, none⟩) m cap)).setCell ⟨b + 1, 0, none⟩ (.int .i64 0) = W9 := ⟨_, rfl⟩
  rw [hW9] at hset2 hkx he hm6 ⊢
  clear hW9
  refine leaves_cons (f := 87) (args := #[.pointer (some ⟨b, 0, none⟩), .pointer (some ⟨b + 1, 0, none⟩)]) (by simp) (by simp [go_sem]) ?_
  refine (trRead1 _ _ _).mono ?_
  rintro e u' w'' ⟨rfl, rfl, rfl⟩
  exact ⟨_, results_leafE rfl _ _ b _ _ _ _ (b + 1) _ rfl rfl hset2 he, g, cap, c', M', by rw [HML.out], hm6, HF.out.2.2.2.2.1, HF.out.2.2.2.2.2.1, HF.out.2.2.2.2.2.2, hkx⟩

end Go.Proofs.Ytdbohcdjamhdjaa
/- Package tree's lead.read of a memo. -/
set_option linter.unusedVariables false
namespace Go.Proofs.Ytdbohcdjamhdjaa
open Go.RowKit

set_option maxHeartbeats 2000000 in
set_option maxRecDepth 100000 in
theorem trLeadReadM {w : World} {s room c k : Nat} {N : List Nd} {D : Nat → Prop} {M : Int → Option (Option Lf9)} (h : IsMm w k c N M) (hS : IsSh w s room N D) (hc : c < 100000) (i : Nat) (hi : i < N.length) (hfi : Fits N[i].2) (root : Bool) (lv : Int) (low high : Nat) (hf : FitOk root lv low high N[i].1 N[i].2) :
    Calls Try.prog 47 #[leadV (i + 1) root lv low high, mmI s k] w (MmR w k c N M ((i + 1 : Nat) : Int) (N[i].1 : Int) N[i].2) := by
  obtain ⟨p, hp⟩ : ∃ p, i + 1 = p := ⟨_, rfl⟩
  obtain ⟨W, hW⟩ : ∃ W, (w.alloc (.cells #[.int .i64 (p : Int), .bool root, .int .i64 lv, .int .u64 (low : Int), .int .u64 (high : Int)] 111)).alloc (.cells #[.int .i64 0, .slice none 0 0] 27) = W := ⟨_, rfl⟩
  have hkW : KeptIn (· < w.heap.size) w W := by rw [← hW]; exact ((KeptIn.refl _ w).alloc (fun _ h => h) _).alloc (fun _ h => h) _
  have C := trReadM (h.old hkW) (hS.old hkW) hc i hi hfi
  obtain ⟨nlv, hlv⟩ : ∃ nlv, N[i].1 = nlv := ⟨_, rfl⟩
  obtain ⟨ps, hpe⟩ : ∃ ps, N[i].2 = ps := ⟨_, rfl⟩
  have HE := Lib.hid hpe
  have HP9 := Lib.hid hp
  rw [hlv, hpe] at hf
  rw [hp, hlv, hpe] at C
  rw [hp, hlv, hpe]
  obtain ⟨x, hx⟩ : ∃ x, w.heap.size = x := ⟨_, rfl⟩
  have hbd : BoxD x p root lv low high W := by
    rw [← hW, ← hx]
    exact (BoxD.new w p root lv low high).kept ((KeptIn.refl _ _).alloc (fun _ h => h) _) (by simp)
  have hbl : BoxL (x + 1) 0 none 0 0 W := by
    rw [← hW, ← hx, show w.heap.size + 1 = (w.alloc (.cells #[.int .i64 (p : Int), .bool root, .int .i64 lv, .int .u64 (low : Int), .int .u64 (high : Int)] 111)).heap.size by simp]
    exact heap_alloc_new _ _
  have p0 := hbd.c0
  have HKL := Lib.hid (And.intro h.lt hx)
  have HC := Lib.hid C
  have HFIT := Lib.hid hf
  have HWB := Lib.hid (And.intro hkW (And.intro hbd hbl))
  obtain ⟨m, hm⟩ : ∃ m, ps.length = m := ⟨_, rfl⟩
  have HM := Lib.hid hm
  unfold leadV mmI mmV pgV at *
  clear C hf hkW hbd hbl h hlv hpe hp hfi hm hS
  go_enter Try.func47, Try.ntmps47
  go_wp2_with (go_at_call 69; refine HC.out.mono ?_)
  rintro e V hR
  unfold MmR at hR
  obtain ⟨g, cg, c', M', rfl, hmm, hMp, hq, hcc, kV⟩ := hR
  have hxk : x ≠ k := fun e => by have := HKL.out.1; have := HKL.out.2; omega
  have hxk1 : x + 1 ≠ k := fun e => by have := HKL.out.1; have := HKL.out.2; omega
  rw [HM.out]
  unfold leafV
  have hps : IsPs V (some ⟨g, 0, none⟩) ps := by
    obtain ⟨i9, hi9, g9, cap9, q1, q2, q3, q4⟩ := hmm.node _ _ hMp
    simp only [Option.some.injEq, Prod.mk.injEq] at q2
    obtain ⟨_, rfl, q5, _⟩ := q2
    have hi0 : i9 = i := by have := HP9.out; omega
    subst hi0
    rw [← HE.out]
    exact q3
  obtain ⟨U, hU⟩ : ∃ U, V.alloc (.cells #[.int .i64 (nlv : Int), .slice (some ⟨g, 0, none⟩) m cg] 27) = U := ⟨_, rfl⟩
  obtain ⟨y, hy⟩ : ∃ y, V.heap.size = y := ⟨_, rfl⟩
  have hkU : KeptIn (· < V.heap.size) V U := by rw [← hU]; exact (KeptIn.refl _ V).alloc (fun _ h => h) _
  have hby : BoxL y (nlv : Int) (some ⟨g, 0, none⟩) m cg U := by rw [← hU, ← hy]; exact BoxL.new V _ _ _ _
  have hbdU := (HWB.out.2.1.kept kV ⟨HWB.out.2.1.lt, hxk⟩).kept hkU (HWB.out.2.1.kept kV ⟨HWB.out.2.1.lt, hxk⟩).lt
  have hblU := (HWB.out.2.2.kept kV ⟨HWB.out.2.2.lt, hxk1⟩).kept hkU (HWB.out.2.2.kept kV ⟨HWB.out.2.2.lt, hxk1⟩).lt
  have hpsU := hps.old hkU
  have hmU := hmm.old hkU
  have hkw : KeptIn (fun j => j < w.heap.size ∧ j ≠ k) w U := ((HWB.out.1.mono fun j h => h.1).trans (kV.mono fun j h => ⟨Nat.lt_of_lt_of_le h.1 HWB.out.1.size, h.2⟩)).trans (hkU.mono fun j h => Nat.lt_of_lt_of_le h.1 (Nat.le_trans HWB.out.1.size kV.size))
  have CF := trFits p root lv low high nlv (some ⟨g, 0, none⟩) cg ps U hpsU HFIT.out
  unfold leafV leadV at CF
  rw [HM.out] at CF
  have q0 := hby.c0; have q1 := hby.c1
  have d0 := hbdU.c0; have d1 := hbdU.c1; have d2 := hbdU.c2; have d3 := hbdU.c3; have d4 := hbdU.c4
  have HCF := Lib.hid CF
  have HQ := Lib.hid (And.intro hby (And.intro hblU (And.intro hmU (And.intro hkw (And.intro hMp (And.intro hq hcc))))))
  clear hps kV hkU hby hpsU hbdU hblU CF hmm hMp hq hcc hmU hkw hxk hxk1
  go_wp2_with (go_at_call 70; refine HCF.out.mono ?_)
  rintro e V2 ⟨rfl, hk2⟩
  have hb2 := HQ.out.1.kept hk2 HQ.out.1.lt
  have hr2 := HQ.out.2.1.kept hk2 HQ.out.2.1.lt
  have r0 := hb2.c0; have r1 := hb2.c1; have r2 := hr2.c0; have r3 := hr2.f0; have r4 := hr2.c1; have r5 := hr2.f1
  have HR := Lib.hid (And.intro hr2 (And.intro (HQ.out.2.2.1.old hk2) (HQ.out.2.2.2.1.trans (hk2.mono fun j h => Nat.lt_of_lt_of_le h.1 HQ.out.2.2.2.1.size))))
  clear hb2 hr2 hk2
  go_wp2_with fail
  have hset := HR.out.1.set (lv' := (nlv : Int)) (a' := some ⟨g, 0, none⟩) (n' := m) (cap' := cg)
  have hs0 : BoxL (x + 1) (nlv : Int) none 0 0 (V2.setCell ⟨x + 1, 0, none⟩ (.int .i64 (nlv : Int))) := (heap_setCell_same _ _ _ _ _ _ HR.out.1).trans rfl
  have hm5 := (HR.out.2.1.set HR.out.1 0 (.int .i64 (nlv : Int))).set hs0 1 (.slice (some ⟨g, 0, none⟩) m cg)
  have hwx := HKL.out.2
  have hkx := (HR.out.2.2.setCell (p := ⟨x + 1, 0, none⟩) (by intro h; have h1 : x + 1 < w.heap.size := h.1; omega) (.int .i64 (nlv : Int))).setCell (p := ⟨x + 1, 1, none⟩) (by intro h; have h1 : x + 1 < w.heap.size := h.1; omega) (.slice (some ⟨g, 0, none⟩) m cg)
  refine bodyPost_ret (results_leaf rfl _ _ (x + 1) _ _ _ _ rfl hset) rfl ?_
  exact ⟨g, cg, c', M', by rw [HM.out]; rfl, hm5, HQ.out.2.2.2.2.1, HQ.out.2.2.2.2.2.1, HQ.out.2.2.2.2.2.2, hkx⟩

end Go.Proofs.Ytdbohcdjamhdjaa
/- Package reach's memo of a Shelf with whatever nodes: Read of a node that can be, and that it hasn't yet. -/
set_option linter.unusedVariables false
namespace Go.Proofs.Ytdbohcdjamhdjaa
open Go.RowKit

/-- A node that can be, with a pair. -/
def gdA (nd : NdA) : Prop := goodN nd.1 nd.2 = true ∧ 0 < nd.2.length
instance (nd : NdA) : Decidable (gdA nd) := by unfold gdA; infer_instance
/-- What is told of a node: itself, if it can be; else one that is no node in memory. -/
def toNd (nd : NdA) : Nd := if gdA nd then (nd.1.toNat, nd.2) else (0, [(18446744073709551616, 0)])
def N9 (NA : List NdA) : List Nd := NA.map toNd
def GdAt (NA : List NdA) (i : Nat) : Prop := ∃ nd, NA[i]? = some nd ∧ gdA nd
theorem n9_len {NA : List NdA} {N : List Nd} {W : World} {s H : Nat} (hNA : N9 NA = N) (h : IsShA W s H NA) : N.length ≤ 511 := by
  rw [← hNA, N9, List.length_map]
  exact h.len
theorem n9_at {NA : List NdA} {N : List Nd} (hNA : N9 NA = N) {i : Nat} (hi : i < N.length) : ∃ h : i < NA.length, N[i] = toNd NA[i] := by
  subst hNA
  have h : i < NA.length := by rw [N9, List.length_map] at hi; exact hi
  exact ⟨h, by simp [N9]⟩
theorem toNd_good {nd : NdA} (h : gdA nd) : ((toNd nd).1 : Int) = nd.1 ∧ (toNd nd).2 = nd.2 := by
  unfold toNd
  rw [if_pos h]
  refine ⟨?_, rfl⟩
  have := (good_parts h.1).1
  exact Int.toNat_of_nonneg this
theorem n9_pos {NA : List NdA} {N : List Nd} {W : World} {s H : Nat} (hNA : N9 NA = N) (h : IsShA W s H NA) (i : Nat) (hi : i < N.length) : 0 < N[i].2.length ∧ N[i].2.length ≤ 1000 := by
  obtain ⟨h1, e⟩ := n9_at hNA hi
  rw [e]
  unfold toNd
  split
  · rename_i hg
    exact ⟨hg.2, h.small i h1⟩
  · exact ⟨by simp, by simp⟩
theorem gdAt_n9 {NA : List NdA} {N : List Nd} (hNA : N9 NA = N) {i : Nat} (hi : i < N.length) (hg : GdAt NA i) : ∃ h : i < NA.length, gdA NA[i] ∧ (N[i].1 : Int) = NA[i].1 ∧ N[i].2 = NA[i].2 := by
  obtain ⟨h1, e⟩ := n9_at hNA hi
  obtain ⟨nd, q1, q2⟩ := hg
  rw [List.getElem?_eq_getElem h1] at q1
  obtain rfl := Option.some.inj q1
  rw [e]
  exact ⟨h1, q2, toNd_good q2⟩
theorem shReadG {w : World} {s H : Nat} {NA : List NdA} {N : List Nd} (h : IsShA w s H NA) (hNA : N9 NA = N) (i : Nat) (hi : i < N.length) (hg : GdAt NA i) :
    Calls Try.prog 118 #[.pointer (some ⟨s, 0, none⟩), .int .i64 ((i + 1 : Nat) : Int)] w (RdS w (N[i].1 : Int) N[i].2) := by
  obtain ⟨h1, hgd, e1, e2⟩ := gdAt_n9 hNA hi hg
  rw [e1, e2]
  refine (shReadA h i h1).mono ?_
  rintro e w' ⟨a, cap, rfl, hn, hk⟩
  obtain ⟨g, rfl, hgg, ht⟩ := hn.2 hgd.2
  exact ⟨g, cap, rfl, hn.1, hgg, hk, ht⟩

set_option maxHeartbeats 2000000 in
set_option maxRecDepth 100000 in
theorem mmNewG {w : World} {s H x c : Nat} {NA : List NdA} {N : List Nd} (hNA : N9 NA = N) {M : Int → Option (Option Lf9)} (h : IsMm w x c N M) (hS : IsShA w s H NA) (hc : c < 100000) (i : Nat) (hi : i < N.length) (hgd : GdAt NA i) (hf : Fits N[i].2) (hz : M ((i + 1 : Nat) : Int) = none) :
    Calls Try.prog 121 #[mmV s x, .int .i64 ((i + 1 : Nat) : Int)] w (MmN w x c N M ((i + 1 : Nat) : Int) (N[i].1 : Int) N[i].2) := by
  have hpos := n9_pos hNA hS i hi
  have hlen := n9_len hNA hS
  obtain ⟨p, hp⟩ : ∃ p : Int, ((i + 1 : Nat) : Int) = p := ⟨_, rfl⟩
  have hpw : (Lit.int .i64 p).wf = true := by
    rw [← hp]
    simp [Lit.wf, IntKind.min, IntKind.max, IntKind.signed, IntKind.bits]
    omega
  obtain ⟨W, hW⟩ : ∃ W, (w.alloc (.cells #[pgV s, .map (some x)] 66)).alloc (.cells #[.int .i64 0, .slice none 0 0] 27) = W := ⟨_, rfl⟩
  have hk : KeptIn (· < w.heap.size) w W := by rw [← hW]; exact ((KeptIn.refl _ w).alloc (fun _ h => h) _).alloc (fun _ h => h) _
  rw [hp] at hz ⊢
  have hlk := ((h.old hk).map.look lfV9_inj Try.underlying64 none (zeroLeaf9 W) p hpw).1
  rw [hz] at hlk
  obtain ⟨B, hB⟩ : ∃ B, w.heap.size = B := ⟨_, rfl⟩
  have b0 : W.heap[B]? = some (.cells #[pgV s, .map (some x)] 66 (0, 0)) := by
    rw [← hW, ← hB, Lib.alloc_old _ _ _ (by simp)]
    exact heap_alloc_new w _
  have b1 : BoxL (B + 1) 0 none 0 0 W := by
    have := BoxL.new (w.alloc (.cells #[pgV s, .map (some x)] 66)) 0 none 0 0
    rw [World.size_alloc, hB, hW] at this
    exact this
  have c1 : W.cell? ⟨B, 1, none⟩ = some (.map (some x)) := by simp [World.cell?, b0]
  have hkX : KeptIn (· < W.heap.size) W (W.alloc (.cells #[.int .i64 0, .slice none 0 0] 27)) := (KeptIn.refl _ W).alloc (fun _ h => h) _
  have hbl := BoxL.new W 0 none 0 0
  obtain ⟨X, hX⟩ : ∃ X, W.alloc (.cells #[.int .i64 0, .slice none 0 0] 27) = X := ⟨_, rfl⟩
  obtain ⟨y, hy⟩ : ∃ y, W.heap.size = y := ⟨_, rfl⟩
  rw [hX] at hkX hbl
  rw [hy] at hbl
  have CR := shReadG (hS.old (hk.trans (hkX.mono fun k h => Nat.lt_of_lt_of_le h hk.size))) hNA i hi hgd
  rw [hp] at CR
  obtain ⟨lv, hlv⟩ : ∃ lv : Int, (N[i].1 : Int) = lv := ⟨_, rfl⟩
  obtain ⟨ps, hps⟩ : ∃ ps, N[i].2 = ps := ⟨_, rfl⟩
  rw [hlv, hps] at CR ⊢
  rw [hps] at hpos hf
  have hBy : B + 1 < y := by rw [← hy]; exact b1.lt
  have hb0X := (hkX.block B (Array.getElem?_eq_some_iff.1 b0).1).trans b0
  have hb1X := b1.kept hkX b1.lt
  have HW := Lib.hid hW; have HK := Lib.hid hk; have HB := Lib.hid hB; have HX := Lib.hid hX; have HY := Lib.hid hy
  have HC := Lib.hid CR
  have HBX := Lib.hid (And.intro hb0X (And.intro hb1X (And.intro hbl (And.intro hkX hBy))))
  have HSP : Hid (∀ i (h : i < N.length), 0 < N[i].2.length) := Lib.hid fun i h => (n9_pos hNA hS i h).1
  have HI := Lib.hid (And.intro h (And.intro hc (And.intro hi (And.intro hlv (And.intro hps (And.intro hp (And.intro hpw (And.intro hpos hf))))))))
  have q0 : X.cell? ⟨B, 0, none⟩ = some (pgV s) := by simp [World.cell?, hb0X]
  simp only [lfV9, Option.getD_none, Option.isSome_none] at hlk
  unfold leafV at hlk
  unfold pgV at *
  unfold mmV pgV
  clear h hz hk hW b0 b1 hB hX hy hkX hbl CR hlv hps hpos hf hb0X hb1X hS hp hpw hBy hlen hgd hNA
  go_enter Try.func121, Try.ntmps121
  go_upto_region 1 with fail
  rw [HW.out, HB.out]
  go_upto_region 2 with fail
  rw [HX.out, HY.out]
  clear c1 hlk
  go_wp2_with (go_at_call 118; refine HC.out.mono ?_)
  rintro e V hR
  obtain ⟨g0, cg, rfl, hpV, hg0, kV, _⟩ := hR
  have hb0V := (kV.block B (Array.getElem?_eq_some_iff.1 HBX.out.1).1).trans HBX.out.1
  have hb1V := HBX.out.2.1.kept kV HBX.out.2.1.lt
  have hblV := HBX.out.2.2.1.kept kV HBX.out.2.2.1.lt
  have hyX := HBX.out.2.2.1.lt
  have hgy : g0 ≠ y := by omega
  obtain ⟨m, hm⟩ : ∃ m, ps.length = m := ⟨_, rfl⟩
  unfold leafV
  rw [hm]
  have d0 := hblV.c0; have d1 := hblV.c1; have e0 := hblV.f0; have e1 := hblV.f1
  have hset1 := BoxL.set (lv' := lv) (a' := some ⟨g0, 0, none⟩) (n' := m) (cap' := cg) hblV
  have hps1 := psSet (psSet hpV ⟨y, 0, none⟩ (.int .i64 lv) (fun q h => by cases h; exact hgy)) ⟨y, 1, none⟩ (.slice (some ⟨g0, 0, none⟩) m cg) (fun q h => by cases h; exact hgy)
  have k1 : KeptIn (· ≠ y) V ((V.setCell ⟨y, 0, none⟩ (.int .i64 lv)).setCell ⟨y, 1, none⟩ (.slice (some ⟨g0, 0, none⟩) m cg)) := ((KeptIn.refl _ V).setCell (p := ⟨y, 0, none⟩) (by simp) _).setCell (p := ⟨y, 1, none⟩) (by simp) _
  obtain ⟨V1, hV1⟩ : ∃ V1, (V.setCell ⟨y, 0, none⟩ (.int .i64 lv)).setCell ⟨y, 1, none⟩ (.slice (some ⟨g0, 0, none⟩) m cg) = V1 := ⟨_, rfl⟩
  rw [hV1] at hset1 hps1 k1
  have hBy := HBX.out.2.2.2.2
  have hb01 := (k1.block B (by omega)).trans hb0V
  have hb11 := hb1V.kept k1 (by omega)
  have kw1 : KeptIn (· < w.heap.size) w V1 := by
    have hwW := HK.out.size
    have hz1 := HBX.out.2.2.2.1.size
    have hyw : w.heap.size ≤ y := by rw [← HY.out]; exact hwW
    exact ((HK.out.trans (HBX.out.2.2.2.1.mono fun k h => Nat.lt_of_lt_of_le h hwW)).trans (kV.mono fun k h => Nat.lt_of_lt_of_le h (Nat.le_trans hwW hz1))).trans (k1.mono fun k h => by show k ≠ y; omega)
  have HCL := Lib.hid (pClone (some ⟨g0, 0, none⟩) cg ps V1 hps1 HI.out.2.2.2.2.2.2.2.1.1 (by have := HI.out.2.2.2.2.2.2.2.1.2; omega))
  have HV1 := Lib.hid hV1
  have H1 := Lib.hid (And.intro hset1 (And.intro hb01 (And.intro hb11 kw1)))
  have HM := Lib.hid (And.intro hm hBy)
  clear hb0V hb1V hblV hyX hgy hset1 hps1 k1 hV1 hb01 hb11 kw1 hpV hg0 kV hm hBy q0
  go_upto_region 7 with fail
  rw [HV1.out]
  have d2 := H1.out.1.c1
  have HCL2 := HCL.out
  rw [HM.out.1] at HCL2
  clear d0 d1 e0 e1
  go_wp2_with (go_at_call 78; refine HCL2.mono ?_)
  rintro e V2 hR
  unfold CloneS at hR
  obtain ⟨g1, cap1, rfl, hrow, k2⟩ := hR
  have hbl2 := H1.out.1.kept k2 H1.out.1.lt
  have hb02 := (k2.block B (Array.getElem?_eq_some_iff.1 H1.out.2.1).1).trans H1.out.2.1
  have hb12 := H1.out.2.2.1.kept k2 H1.out.2.2.1.lt
  have hkw2 := H1.out.2.2.2.trans (k2.mono fun k h => Nat.lt_of_lt_of_le h H1.out.2.2.2.size)
  have hps2 := row_IsPs hrow HI.out.2.2.2.2.2.2.2.2
  have hg1 : V1.heap.size ≤ g1 := by
    rcases hrow.2 with ⟨e, _⟩ | ⟨g, c2, cur, e, hB2, _⟩
    · cases e
    · simp only [Value.slice.injEq, Option.some.injEq, Addr.mk.injEq, and_true, true_and] at e
      omega
  have hyV1 := H1.out.1.lt
  have hgy1 : g1 ≠ y := by omega
  have hty2 : TyC V2 g1 ps.length cap1 := ⟨row_TyP hrow, row_cap hrow⟩
  rw [HM.out.1]
  have d1 := hbl2.c1; have e1 := hbl2.f1
  have hset3 : BoxL y lv (some ⟨g1, 0, none⟩) m cap1 (V2.setCell ⟨y, 1, none⟩ (.slice (some ⟨g1, 0, none⟩) m cap1)) := (heap_setCell_same _ _ _ _ _ _ hbl2).trans rfl
  have hps3 := psSet hps2 ⟨y, 1, none⟩ (.slice (some ⟨g1, 0, none⟩) m cap1) (fun q h => by cases h; exact hgy1)
  have hty3 := hty2.set ⟨y, 1, none⟩ (.slice (some ⟨g1, 0, none⟩) m cap1) hgy1
  have k3 : KeptIn (· ≠ y) V2 (V2.setCell ⟨y, 1, none⟩ (.slice (some ⟨g1, 0, none⟩) m cap1)) := (KeptIn.refl _ V2).setCell (p := ⟨y, 1, none⟩) (by simp) _
  obtain ⟨V3, hV3⟩ : ∃ V3, V2.setCell ⟨y, 1, none⟩ (.slice (some ⟨g1, 0, none⟩) m cap1) = V3 := ⟨_, rfl⟩
  rw [hV3] at hset3 hps3 hty3 k3
  have hBy := HM.out.2
  have hb03 := (k3.block B (by omega)).trans hb02
  have hb13 := hb12.kept k3 (by omega)
  have hyw : w.heap.size ≤ y := by rw [← HY.out]; exact HK.out.size
  have kw3 := hkw2.trans (k3.mono (Y := (· < w.heap.size)) fun k h => by show k ≠ y; omega)
  have hM3 := HI.out.1.old kw3
  obtain ⟨w4, hrun, hmp, hk4, hsz⟩ := hM3.map.store lfV9_inj Try.underlying64 (by have := HI.out.2.1; unfold maxLen; omega) p HI.out.2.2.2.2.2.2.1 (some (lv, g1, m, cap1))
  simp only [lfV9, lf9] at hrun
  unfold leafV at hrun
  have hxlt := HI.out.1.lt
  have hBw := HB.out
  have hb14 := hb13.kept hk4 (by omega)
  have hbl4 := hset3.kept hk4 (by omega)
  have hps4 := psNotMap hps3 HI.out.2.2.2.2.2.2.2.1.1 hM3.map (hk4.mono fun k h => h.2)
  have hgx : g1 ≠ x := by have := H1.out.2.2.2.size; omega
  have hty4 : TyC w4 g1 ps.length cap1 := ⟨hty3.1.kept (hk4.block g1 hgx), hty3.2⟩
  have hMm : IsMm w4 x (c + 1) N (mpPut M p (some (lv, g1, ps.length, cap1))) := by
    refine ⟨by rw [HM.out.1]; exact hmp, fun p' z' hz' => ?_⟩
    unfold mpPut at hz'
    by_cases ep : p' = p
    · rw [if_pos ep] at hz'
      cases hz'
      have q1 : (N[i].1 : Int) = lv := HI.out.2.2.2.1
      have q2 : N[i].2 = ps := HI.out.2.2.2.2.1
      exact ⟨i, hi, g1, cap1, by rw [ep]; exact HI.out.2.2.2.2.2.1.symm, by rw [q1, q2], by rw [q2]; exact hps4, by rw [q2]; exact hty4⟩
    · rw [if_neg ep] at hz'
      obtain ⟨i', hi', g', cap', q1, q2, q3, q4⟩ := hM3.node p' z' hz'
      have hp0 : 0 < N[i'].2.length := HSP.out i' hi'
      refine ⟨i', hi', g', cap', q1, q2, psNotMap q3 hp0 hM3.map (hk4.mono fun k h => h.2), ⟨q4.1.kept (hk4.block g' (q4.1.ne_map hM3.map)), q4.2⟩⟩
  have kw4 : KeptIn (fun j => j < w.heap.size ∧ j ≠ x) w w4 := (kw3.mono fun k h => h.1).trans (hk4.mono fun k h => h.2)
  have HV3 := Lib.hid hV3
  have HR := Lib.hid hrun
  have c8 : V3.cell? ⟨B, 1, none⟩ = some (.map (some x)) := by simp [World.cell?, hb03]
  have d3 := hset3.c0; have d4 := hset3.c1
  have H4 := Lib.hid (And.intro hb14 (And.intro hbl4 (And.intro hMm (And.intro kw4 (show w.heap.size ≤ g1 by have := H1.out.2.2.2.size; omega)))))
  clear hps2 hg1 hyV1 hgy1 hty2 hset3 hps3 hty3 k3 hV3 hBy hb03 hb13 hyw kw3 hM3 hrun hmp hk4 hsz hb14 hbl4 hps4 hgx hty4 hMm kw4 hbl2 hb02 hb12 hkw2 hrow k2 HCL2 d2 hxlt hBw
  go_upto_region 8 with fail
  rw [HV3.out]
  clear d1 e1
  have hr2 := HR.out
  go_upto_region 9 with fail
  clear hr2 c8 d3 d4
  have d0 := H4.out.2.1.c0; have d1 := H4.out.2.1.c1
  have z0 := H4.out.1.c0; have z1 := H4.out.1.c1; have f0 := H4.out.1.f0; have f1 := H4.out.1.f1
  have hset := BoxL.set (lv' := lv) (a' := some ⟨g1, 0, none⟩) (n' := m) (cap' := cap1) H4.out.1
  have hs0 : BoxL (B + 1) lv none 0 0 (w4.setCell ⟨B + 1, 0, none⟩ (.int .i64 lv)) := (heap_setCell_same _ _ _ _ _ _ H4.out.1).trans rfl
  have hm5 := (H4.out.2.2.1.set H4.out.1 0 (.int .i64 lv)).set hs0 1 (.slice (some ⟨g1, 0, none⟩) m cap1)
  have hk5 := (H4.out.2.2.2.1.setCell (p := ⟨B + 1, 0, none⟩) (by intro h; have h1 : B + 1 < w.heap.size := h.1; rw [HB.out] at h1; omega) (.int .i64 lv)).setCell (p := ⟨B + 1, 1, none⟩) (by intro h; have h1 : B + 1 < w.heap.size := h.1; rw [HB.out] at h1; omega) (.slice (some ⟨g1, 0, none⟩) m cap1)
  have HB2 := Lib.hid (And.intro hset (And.intro hm5 hk5))
  clear hset hs0 hm5 hk5
  go_wp2_with fail
  try simp only [Exit.inBlock, Exit.then]
  refine bodyPost_ret (results_leaf rfl _ _ (B + 1) _ _ _ _ rfl HB2.out.1) rfl ?_
  unfold MmN
  exact ⟨g1, cap1, by rw [HM.out.1]; rfl, HB2.out.2.1, H4.out.2.2.2.2, HB2.out.2.2⟩

end Go.Proofs.Ytdbohcdjamhdjaa
/- Package reach's memo of a Shelf with whatever nodes: Read of a node that it hasn't yet: what is answered. -/
set_option linter.unusedVariables false
namespace Go.Proofs.Ytdbohcdjamhdjaa
open Go.RowKit Go.Maps

section
variable {α : Type} {V : α → Value}
/-- 'm[k] = v', whatever v is: what stands behind it isn't asked. -/
theorem MpAt.putAny {b N : Nat} {M : Int → Option α} {w : World} (h : MpAt V b N M w) {T te : TypeId} (hT : Try.prog.underlying T = some (.map 3 te)) (hN : N < maxLen) (x : Int) (hx : (Lit.int .i64 x).wf = true) (v : Value) :
    ∃ w', (Instr.mapUpdate T (.map (some b)) (.int .i64 x) v).run Try.prog w = .ok () w' ∧ KeptIn (· ≠ b) w w' ∧ w'.heap.size = w.heap.size := by
  obtain ⟨D, ⟨es, clock, h1, h2, h3, h4⟩, hs⟩ := h
  have hF : Go.WideElems.Fit Try.prog 3 (mpR (fun u : Value => u)) es clock := ⟨h2.size, h2.stamped, fun y hy => by
    obtain ⟨z, hz⟩ := h2.reads y hy
    exact ⟨_, Go.WideElems.rd_mk (Go.WideElems.rd_key hz) (mpR_mk (V := fun u : Value => u) (fun _ _ e => e) y.val)⟩⟩
  obtain ⟨w', hrun, hown', es2, clock2, es', clock', hb, rfl⟩ := (show w.ownsMap Try.prog 3 (mpR (fun u : Value => u)) b N _ from ⟨es, clock, h1, hF, h3, rfl⟩).store mpLaw hT hN (mpKey hx) (mpR_mk (V := fun u : Value => u) (fun _ _ e => e) v)
  exact ⟨_, hrun, ⟨rfl, rfl, rfl, by simp [ChangeMaps.setBlock], fun i hi => ChangeMaps.heap_setBlock_other hb _ hi⟩, by simp [ChangeMaps.setBlock]⟩
end

theorem NewP.notMap {B cap x : Nat} {a : Option Addr} {ps : Pairs} {W W' : World} (h : NewP B a cap ps W) (hx : x < W.heap.size) (hk : KeptIn (· ≠ x) W W') (hB : x < B) : NewP B a cap ps W' := by
  by_cases h0 : ps.length = 0
  · exact ⟨psNone h0, fun hp => by omega⟩
  · obtain ⟨g, rfl, hg, ht⟩ := h.2 (by omega)
    have hne : g ≠ x := by omega
    exact ⟨psAt h.1 hk (fun p e => by cases e; exact hne), fun _ => ⟨g, rfl, hg, ⟨ht.1.kept (hk.block g hne), ht.2⟩⟩⟩
theorem psBox {W : World} {a : Option Addr} {ps : Pairs} {x n cap : Nat} {lv : Int} {b : Option Addr} (h : IsPs W a ps) (hb : BoxL x lv b n cap W) (j : Nat) (v : Value) : IsPs (W.setCell ⟨x, j, none⟩ v) a ps := by
  by_cases h0 : ps.length = 0
  · exact psNone h0
  · obtain ⟨g, off, rfl, hg, hc⟩ := h.cells (by omega)
    have hgx : g ≠ x := fun e => by
      obtain ⟨c1, c2⟩ := hc 0 (by omega)
      rw [Nat.zero_mul, Nat.add_zero] at c1 c2
      rw [e] at c1 c2
      unfold BoxL at hb
      simp only [World.cell?, hb] at c1 c2
      rcases Nat.lt_or_ge off 2 with h2 | h2
      · rcases Nat.lt_or_ge off 1 with h3 | h3
        · obtain rfl : off = 0 := by omega
          simp at c1
        · obtain rfl : off = 1 := by omega
          simp at c1
      · rw [Array.getElem?_eq_none (by simpa using h2)] at c1
        simp at c1
    exact psSet h ⟨x, j, none⟩ v (fun p e => by cases e; exact hgx)
/-- A node that was read of a memo. -/
def RdW (w : World) (x : Nat) (lv : Int) (ps : Pairs) (e : Ending) (w' : World) : Prop :=
  ∃ a cap, e = .returned (.tuple #[leafV lv a ps.length cap, .int .i64 0]) ∧ IsPs w' a ps ∧ KeptIn (fun j => j < w.heap.size ∧ j ≠ x) w w'

set_option maxHeartbeats 2000000 in
set_option maxRecDepth 100000 in
theorem mmNewW {w : World} {s H x c : Nat} {NA : List NdA} {N : List Nd} {M : Int → Option (Option Lf9)} (h : IsMm w x c N M) (hS : IsShA w s H NA) (hc : c < 100000) (i : Nat) (hi : i < NA.length) (hz : M ((i + 1 : Nat) : Int) = none) :
    Calls Try.prog 121 #[mmV s x, .int .i64 ((i + 1 : Nat) : Int)] w (RdW w x NA[i].1 NA[i].2) := by
  have hpos := hS.small i hi
  have hlen := hS.len
  obtain ⟨p, hp⟩ : ∃ p : Int, ((i + 1 : Nat) : Int) = p := ⟨_, rfl⟩
  have hpw : (Lit.int .i64 p).wf = true := by
    rw [← hp]
    simp [Lit.wf, IntKind.min, IntKind.max, IntKind.signed, IntKind.bits]
    omega
  obtain ⟨W, hW⟩ : ∃ W, (w.alloc (.cells #[pgV s, .map (some x)] 66)).alloc (.cells #[.int .i64 0, .slice none 0 0] 27) = W := ⟨_, rfl⟩
  have hk : KeptIn (· < w.heap.size) w W := by rw [← hW]; exact ((KeptIn.refl _ w).alloc (fun _ h => h) _).alloc (fun _ h => h) _
  rw [hp] at hz ⊢
  have hlk := ((h.old hk).map.look lfV9_inj Try.underlying64 none (zeroLeaf9 W) p hpw).1
  rw [hz] at hlk
  obtain ⟨B, hB⟩ : ∃ B, w.heap.size = B := ⟨_, rfl⟩
  have b0 : W.heap[B]? = some (.cells #[pgV s, .map (some x)] 66 (0, 0)) := by
    rw [← hW, ← hB, Lib.alloc_old _ _ _ (by simp)]
    exact heap_alloc_new w _
  have b1 : BoxL (B + 1) 0 none 0 0 W := by
    have := BoxL.new (w.alloc (.cells #[pgV s, .map (some x)] 66)) 0 none 0 0
    rw [World.size_alloc, hB, hW] at this
    exact this
  have c1 : W.cell? ⟨B, 1, none⟩ = some (.map (some x)) := by simp [World.cell?, b0]
  have hkX : KeptIn (· < W.heap.size) W (W.alloc (.cells #[.int .i64 0, .slice none 0 0] 27)) := (KeptIn.refl _ W).alloc (fun _ h => h) _
  have hbl := BoxL.new W 0 none 0 0
  obtain ⟨X, hX⟩ : ∃ X, W.alloc (.cells #[.int .i64 0, .slice none 0 0] 27) = X := ⟨_, rfl⟩
  obtain ⟨y, hy⟩ : ∃ y, W.heap.size = y := ⟨_, rfl⟩
  rw [hX] at hkX hbl
  rw [hy] at hbl
  have CR := shReadA (hS.old (hk.trans (hkX.mono fun k h => Nat.lt_of_lt_of_le h hk.size))) i hi
  rw [hp] at CR
  obtain ⟨lv, hlv⟩ : ∃ lv : Int, NA[i].1 = lv := ⟨_, rfl⟩
  obtain ⟨ps, hps⟩ : ∃ ps, NA[i].2 = ps := ⟨_, rfl⟩
  rw [hlv, hps] at CR ⊢
  rw [hps] at hpos
  have hBy : B + 1 < y := by rw [← hy]; exact b1.lt
  have hb0X := (hkX.block B (Array.getElem?_eq_some_iff.1 b0).1).trans b0
  have hb1X := b1.kept hkX b1.lt
  have HW := Lib.hid hW; have HK := Lib.hid hk; have HB := Lib.hid hB; have HX := Lib.hid hX; have HY := Lib.hid hy
  have HC := Lib.hid CR
  have HBX := Lib.hid (And.intro hb0X (And.intro hb1X (And.intro hbl (And.intro hkX hBy))))
  have HI := Lib.hid (And.intro h (And.intro hc (And.intro hi (And.intro hlv (And.intro hps (And.intro hp (And.intro hpw hpos)))))))
  have q0 : X.cell? ⟨B, 0, none⟩ = some (pgV s) := by simp [World.cell?, hb0X]
  simp only [lfV9, Option.getD_none, Option.isSome_none] at hlk
  unfold leafV at hlk
  unfold pgV at *
  unfold mmV pgV
  clear h hz hk hW b0 b1 hB hX hy hkX hbl CR hlv hps hpos hb0X hb1X hS hp hpw hBy hlen
  go_enter Try.func121, Try.ntmps121
  go_upto_region 1 with fail
  rw [HW.out, HB.out]
  go_upto_region 2 with fail
  rw [HX.out, HY.out]
  clear c1 hlk
  go_wp2_with (go_at_call 118; refine HC.out.mono ?_)
  rintro e V hR
  obtain ⟨g0, cg, rfl, hpV, kV⟩ := hR
  have hb0V := (kV.block B (Array.getElem?_eq_some_iff.1 HBX.out.1).1).trans HBX.out.1
  have hb1V := HBX.out.2.1.kept kV HBX.out.2.1.lt
  have hblV := HBX.out.2.2.1.kept kV HBX.out.2.2.1.lt
  have hyX := HBX.out.2.2.1.lt
  obtain ⟨m, hm⟩ : ∃ m, ps.length = m := ⟨_, rfl⟩
  unfold leafV
  rw [hm]
  have d0 := hblV.c0; have d1 := hblV.c1; have e0 := hblV.f0; have e1 := hblV.f1
  have hset1 := BoxL.set (lv' := lv) (a' := g0) (n' := m) (cap' := cg) hblV
  have hps1 := (hpV.set ⟨y, 0, none⟩ (.int .i64 lv) hyX).set ⟨y, 1, none⟩ (.slice g0 m cg) hyX
  have k1 : KeptIn (· ≠ y) V ((V.setCell ⟨y, 0, none⟩ (.int .i64 lv)).setCell ⟨y, 1, none⟩ (.slice g0 m cg)) := ((KeptIn.refl _ V).setCell (p := ⟨y, 0, none⟩) (by simp) _).setCell (p := ⟨y, 1, none⟩) (by simp) _
  obtain ⟨V1, hV1⟩ : ∃ V1, (V.setCell ⟨y, 0, none⟩ (.int .i64 lv)).setCell ⟨y, 1, none⟩ (.slice g0 m cg) = V1 := ⟨_, rfl⟩
  rw [hV1] at hset1 hps1 k1
  have hBy := HBX.out.2.2.2.2
  have hb01 := (k1.block B (by omega)).trans hb0V
  have hb11 := hb1V.kept k1 (by omega)
  have kw1 : KeptIn (· < w.heap.size) w V1 := by
    have hwW := HK.out.size
    have hz1 := HBX.out.2.2.2.1.size
    have hyw : w.heap.size ≤ y := by rw [← HY.out]; exact hwW
    exact ((HK.out.trans (HBX.out.2.2.2.1.mono fun k h => Nat.lt_of_lt_of_le h hwW)).trans (kV.mono fun k h => Nat.lt_of_lt_of_le h (Nat.le_trans hwW hz1))).trans (k1.mono fun k h => by show k ≠ y; omega)
  have HCL := Lib.hid (pCloneA g0 cg ps V1 hps1.1 (by have := HI.out.2.2.2.2.2.2.2; omega))
  have HV1 := Lib.hid hV1
  have H1 := Lib.hid (And.intro hset1 (And.intro hb01 (And.intro hb11 kw1)))
  have HM := Lib.hid (And.intro hm hBy)
  clear hb0V hb1V hblV hyX hset1 hps1 k1 hV1 hb01 hb11 kw1 hpV kV hm hBy q0
  go_upto_region 7 with fail
  rw [HV1.out]
  have d2 := H1.out.1.c1
  have HCL2 := HCL.out
  rw [HM.out.1] at HCL2
  clear d0 d1 e0 e1
  go_wp2_with (go_at_call 78; refine HCL2.mono ?_)
  rintro e V2 hR
  unfold CloneA at hR
  obtain ⟨g1, cap1, rfl, hnew, k2⟩ := hR
  have hbl2 := H1.out.1.kept k2 H1.out.1.lt
  have hb02 := (k2.block B (Array.getElem?_eq_some_iff.1 H1.out.2.1).1).trans H1.out.2.1
  have hb12 := H1.out.2.2.1.kept k2 H1.out.2.2.1.lt
  have hkw2 := H1.out.2.2.2.trans (k2.mono fun k h => Nat.lt_of_lt_of_le h H1.out.2.2.2.size)
  have hyV1 := H1.out.1.lt
  rw [HM.out.1]
  have d1 := hbl2.c1; have e1 := hbl2.f1
  have hset3 : BoxL y lv g1 m cap1 (V2.setCell ⟨y, 1, none⟩ (.slice g1 m cap1)) := (heap_setCell_same _ _ _ _ _ _ hbl2).trans rfl
  have hnew3 := (hnew.set ⟨y, 1, none⟩ (.slice g1 m cap1) hyV1).mono H1.out.2.2.2.size
  have k3 : KeptIn (· ≠ y) V2 (V2.setCell ⟨y, 1, none⟩ (.slice g1 m cap1)) := (KeptIn.refl _ V2).setCell (p := ⟨y, 1, none⟩) (by simp) _
  obtain ⟨V3, hV3⟩ : ∃ V3, V2.setCell ⟨y, 1, none⟩ (.slice g1 m cap1) = V3 := ⟨_, rfl⟩
  rw [hV3] at hset3 hnew3 k3
  have hBy := HM.out.2
  have hb03 := (k3.block B (by omega)).trans hb02
  have hb13 := hb12.kept k3 (by omega)
  have hyw : w.heap.size ≤ y := by rw [← HY.out]; exact HK.out.size
  have kw3 := hkw2.trans (k3.mono (Y := (· < w.heap.size)) fun k h => by show k ≠ y; omega)
  have hM3 := HI.out.1.old kw3
  obtain ⟨w4, hrun, hk4, hsz⟩ := hM3.map.putAny Try.underlying64 (by have := HI.out.2.1; unfold maxLen; omega) p HI.out.2.2.2.2.2.2.1 (leafV lv g1 m cap1)
  unfold leafV at hrun
  have hxlt := HI.out.1.lt
  have hBw := HB.out
  have hb14 := hb13.kept hk4 (by omega)
  have hbl4 := hset3.kept hk4 (by omega)
  have hnew4 := hnew3.notMap hM3.map.lt hk4 (by have := HI.out.1.lt; omega)
  have kw4 : KeptIn (fun j => j < w.heap.size ∧ j ≠ x) w w4 := (kw3.mono fun k h => h.1).trans (hk4.mono fun k h => h.2)
  have HV3 := Lib.hid hV3
  have HR := Lib.hid hrun
  have c8 : V3.cell? ⟨B, 1, none⟩ = some (.map (some x)) := by simp [World.cell?, hb03]
  have d3 := hset3.c0; have d4 := hset3.c1
  have H4 := Lib.hid (And.intro hb14 (And.intro hbl4 (And.intro hnew4 kw4)))
  clear hnew hyV1 hset3 hnew3 k3 hV3 hBy hb03 hb13 hyw kw3 hM3 hrun hk4 hsz hb14 hbl4 hnew4 kw4 hbl2 hb02 hb12 hkw2 k2 HCL2 d2 hxlt hBw
  go_upto_region 8 with fail
  rw [HV3.out]
  clear d1 e1
  have hr2 := HR.out
  go_upto_region 9 with fail
  clear hr2 c8 d3 d4
  have d0 := H4.out.2.1.c0; have d1 := H4.out.2.1.c1
  have z0 := H4.out.1.c0; have z1 := H4.out.1.c1; have f0 := H4.out.1.f0; have f1 := H4.out.1.f1
  have hset := BoxL.set (lv' := lv) (a' := g1) (n' := m) (cap' := cap1) H4.out.1
  have hBw : B + 1 < w4.heap.size := H4.out.1.lt
  have hps := psBox (psBox H4.out.2.2.1.1 H4.out.1 0 (.int .i64 lv)) ((heap_setCell_same _ _ _ _ _ _ H4.out.1).trans rfl : BoxL (B + 1) lv none 0 0 (w4.setCell ⟨B + 1, 0, none⟩ (.int .i64 lv))) 1 (.slice g1 m cap1)
  have hk5 := (H4.out.2.2.2.setCell (p := ⟨B + 1, 0, none⟩) (by intro h; have h1 : B + 1 < w.heap.size := h.1; rw [HB.out] at h1; omega) (.int .i64 lv)).setCell (p := ⟨B + 1, 1, none⟩) (by intro h; have h1 : B + 1 < w.heap.size := h.1; rw [HB.out] at h1; omega) (.slice g1 m cap1)
  have HB2 := Lib.hid (And.intro hset (And.intro hps hk5))
  clear hset hps hk5
  go_wp2_with fail
  try simp only [Exit.inBlock, Exit.then]
  refine bodyPost_ret (results_leaf rfl _ _ (B + 1) _ _ _ _ rfl HB2.out.1) rfl ?_
  exact ⟨g1, cap1, by rw [HM.out.1]; rfl, HB2.out.2.1, HB2.out.2.2⟩

end Go.Proofs.Ytdbohcdjamhdjaa
/- Package reach's memo of a Shelf with whatever nodes: Read, and package tree's read of it: a node that can be; whatever node; a page that isn't there. -/
set_option linter.unusedVariables false
namespace Go.Proofs.Ytdbohcdjamhdjaa
open Go.RowKit

theorem mmReadG {w : World} {s H x c : Nat} {NA : List NdA} {N : List Nd} (hNA : N9 NA = N) {M : Int → Option (Option Lf9)} (h : IsMm w x c N M) (hS : IsShA w s H NA) (hc : c < 100000) (i : Nat) (hi : i < N.length) (hgd : GdAt NA i) (hf : Fits N[i].2) :
    Calls Try.prog 121 #[mmV s x, .int .i64 ((i + 1 : Nat) : Int)] w (MmR w x c N M ((i + 1 : Nat) : Int) (N[i].1 : Int) N[i].2) := by
  cases hz : M ((i + 1 : Nat) : Int) with
  | none =>
    refine (mmNewG hNA h hS hc i hi hgd hf hz).mono ?_
    rintro e w' ⟨g, cap, rfl, h1, h2, h3⟩
    exact ⟨g, cap, c + 1, _, rfl, h1, mpPut_self _ _ _, fun q hq => by unfold mpPut; rw [if_neg hq], Nat.le_refl _, h3⟩
  | some z =>
    obtain ⟨i', hi', g, cap, q1, q2, q3, q4⟩ := h.node _ z hz
    obtain rfl : i = i' := by omega
    subst q2
    refine (mmReadHas h _ (by
      have := n9_len hNA hS
      simp [Lit.wf, IntKind.min, IntKind.max, IntKind.signed, IntKind.bits]
      omega) _ hz).mono ?_
    rintro e w' ⟨rfl, hk⟩
    exact ⟨g, cap, c, M, rfl, h.old hk, hz, fun _ _ => rfl, Nat.le_succ _, hk.mono fun k h => h.1⟩

set_option maxHeartbeats 1000000 in
set_option maxRecDepth 100000 in
theorem trReadG {w : World} {s H x c : Nat} {NA : List NdA} {N : List Nd} (hNA : N9 NA = N) {M : Int → Option (Option Lf9)} (h : IsMm w x c N M) (hS : IsShA w s H NA) (hc : c < 100000) (i : Nat) (hi : i < N.length) (hgd : GdAt NA i) (hf : Fits N[i].2) :
    Calls Try.prog 69 #[mmI s x, .int .i64 ((i + 1 : Nat) : Int)] w (MmR w x c N M ((i + 1 : Nat) : Int) (N[i].1 : Int) N[i].2) := by
  have hmf : ∀ (fn : Fn) (first cap : Array Value) (w : World), (Instr.makeFunc fn first cap).run Try.prog w = .ok (.func fn first cap) w := fun _ _ _ _ => rfl
  obtain ⟨W, hW⟩ : ∃ W, (w.alloc (.cells #[.int .i64 0, .slice none 0 0] 27)).alloc (.cells #[.int .i64 0] 32) = W := ⟨_, rfl⟩
  have hk : KeptIn (· < w.heap.size) w W := by rw [← hW]; exact ((KeptIn.refl _ w).alloc (fun _ h => h) _).alloc (fun _ h => h) _
  have C := mmReadG hNA (h.old hk) (hS.old hk) hc i hi hgd hf
  obtain ⟨p, hp⟩ : ∃ p : Int, ((i + 1 : Nat) : Int) = p := ⟨_, rfl⟩
  obtain ⟨lv, hlv⟩ : ∃ lv : Int, (N[i].1 : Int) = lv := ⟨_, rfl⟩
  obtain ⟨ps, hpe⟩ : ∃ ps, N[i].2 = ps := ⟨_, rfl⟩
  rw [hp, hlv, hpe] at C
  rw [hp, hlv, hpe]
  have HC := Lib.hid C
  have HXL := Lib.hid h.lt
  obtain ⟨b, hx⟩ : ∃ b, w.heap.size = b := ⟨_, rfl⟩
  have hb : BoxL b 0 none 0 0 W := by rw [← hW, ← hx]; exact (BoxL.new w 0 none 0 0).kept ((KeptIn.refl _ _).alloc (fun _ h => h) _) (by simp)
  have hb2 : W.heap[b + 1]? = some (.cells #[.int .i64 0] 32 (0, 0)) := by
    rw [← hW, ← hx, show w.heap.size + 1 = (w.alloc (.cells #[.int .i64 0, .slice none 0 0] 27)).heap.size by simp]
    exact heap_alloc_new _ _
  have HB := Lib.hid (And.intro hb (And.intro hb2 (And.intro hk hx)))
  clear C hb hb2 hk hp hlv hpe hf hi hS h hgd hNA
  unfold mmI mmV
  unfold mmV at HC
  go_enter_defers Try.func69, Try.ntmps69
  go_wp2_with (go_at_call 121; refine HC.out.mono ?_)
  rintro e V hR
  unfold MmR at hR
  obtain ⟨g, cap, c', M', rfl, hm, hM, hq, hc', kV⟩ := hR
  have hbx : b ≠ x := fun e => by have := HXL.out; have := HB.out.2.2.2; omega
  have hbx1 : b + 1 ≠ x := fun e => by have := HXL.out; have := HB.out.2.2.2; omega
  have hbV := HB.out.1.kept kV ⟨HB.out.1.lt, hbx⟩
  have hb2V := (kV.block (b + 1) ⟨(Array.getElem?_eq_some_iff.1 HB.out.2.1).1, hbx1⟩).trans HB.out.2.1
  have c0 := hbV.c0; have f0 := hbV.f0; have c1 := hbV.c1; have f1 := hbV.f1
  have c2 : V.cell? ⟨b + 1, 0, none⟩ = some (.int .i64 0) := by simp [World.cell?, hb2V]
  have f2 : V.frozen? ⟨b + 1, 0, none⟩ = false := by simp [World.frozen?, hb2V]
  have hkx : KeptIn (fun j => j < w.heap.size ∧ j ≠ x) w V := (HB.out.2.2.1.mono fun k h => h.1).trans (kV.mono fun k h => ⟨Nat.lt_of_lt_of_le h.1 HB.out.2.2.1.size, h.2⟩)
  have HF := Lib.hid (And.intro hbV (And.intro hb2V (And.intro hm (And.intro hkx (And.intro hM (And.intro hq hc'))))))
  obtain ⟨m, hml⟩ : ∃ m, ps.length = m := ⟨_, rfl⟩
  have HML := Lib.hid hml
  unfold leafV
  rw [hml]
  clear hbV hb2V hm hkx kV hM hq hc' hml hbx hbx1
  go_wp2_with fail
  have hs0 : BoxL b lv none 0 0 (V.setCell ⟨b, 0, none⟩ (.int .i64 lv)) := (heap_setCell_same _ _ _ _ _ _ HF.out.1).trans rfl
  have hset := BoxL.set (lv' := lv) (a' := some ⟨g, 0, none⟩) (n' := m) (cap' := cap) HF.out.1
  have hm5 := (HF.out.2.2.1.set HF.out.1 0 (.int .i64 lv)).set hs0 1 (.slice (some ⟨g, 0, none⟩) m cap)
  have hset2 : BoxL b lv (some ⟨g, 0, none⟩) m cap (((V.setCell ⟨b, 0, none⟩ (.int .i64 lv)).setCell ⟨b, 1, none⟩ (.slice (some ⟨g, 0, none⟩) m cap)).setCell ⟨b + 1, 0, none⟩ (.int .i64 0)) := (heap_setCell_other _ _ _ _ (by simp)).trans hset
  have hb2W : ((V.setCell ⟨b, 0, none⟩ (.int .i64 lv)).setCell ⟨b, 1, none⟩ (.slice (some ⟨g, 0, none⟩) m cap)).heap[b + 1]? = some (.cells #[.int .i64 0] 32 (0, 0)) := ((heap_setCell_other _ _ _ _ (by simp)).trans (heap_setCell_other _ _ _ _ (by simp))).trans HF.out.2.1
  have hm6 := hm5.setE hb2W 0 (.int .i64 0)
  have hwb := HB.out.2.2.2
  have hkx := ((HF.out.2.2.2.1.setCell (p := ⟨b, 0, none⟩) (by intro h; have h1 : b < w.heap.size := h.1; omega) (.int .i64 lv)).setCell (p := ⟨b, 1, none⟩) (by intro h; have h1 : b < w.heap.size := h.1; omega) (.slice (some ⟨g, 0, none⟩) m cap)).setCell (p := ⟨b + 1, 0, none⟩) (by intro h; have h1 : b + 1 < w.heap.size := h.1; omega) (.int .i64 0)
  have he : (((V.setCell ⟨b, 0, none⟩ (.int .i64 lv)).setCell ⟨b, 1, none⟩ (.slice (some ⟨g, 0, none⟩) m cap)).setCell ⟨b + 1, 0, none⟩ (.int .i64 0)).cell? ⟨b + 1, 0, none⟩ = some (.int .i64 0) := World.cell?_setCell_same' _ _ _ (by
    simp [World.cell?, hb2W])
  obtain ⟨W9, hW9⟩ : ∃ W9, ((V.setCell ⟨b, 0, none⟩ (.int .i64 lv)).setCell ⟨b, 1, none⟩ (.slice (some ⟨g, 0, none⟩) m cap)).setCell ⟨b + 1, 0, none⟩ (.int .i64 0) = W9 := ⟨_, rfl⟩
  rw [hW9] at hset2 hkx he hm6 ⊢
  clear hW9
  refine leaves_cons (f := 87) (args := #[.pointer (some ⟨b, 0, none⟩), .pointer (some ⟨b + 1, 0, none⟩)]) (by simp) (by simp [go_sem]) ?_
  refine (trRead1 _ _ _).mono ?_
  rintro e u' w'' ⟨rfl, rfl, rfl⟩
  exact ⟨_, results_leafE rfl _ _ b _ _ _ _ (b + 1) _ rfl rfl hset2 he, g, cap, c', M', by rw [HML.out], hm6, HF.out.2.2.2.2.1, HF.out.2.2.2.2.2.1, HF.out.2.2.2.2.2.2, hkx⟩


theorem psBoxE {W : World} {a : Option Addr} {ps : Pairs} {x : Nat} {ev : Int} (h : IsPs W a ps) (hb : W.heap[x]? = some (.cells #[.int .i64 ev] 32 (0, 0))) (j : Nat) (v : Value) : IsPs (W.setCell ⟨x, j, none⟩ v) a ps := by
  by_cases h0 : ps.length = 0
  · exact psNone h0
  · obtain ⟨g, off, rfl, hg, hc⟩ := h.cells (by omega)
    have hgx : g ≠ x := fun e => by
      obtain ⟨c1, c2⟩ := hc 0 (by omega)
      rw [Nat.zero_mul, Nat.add_zero] at c1
      rw [e] at c1
      simp only [World.cell?, hb] at c1
      rcases Nat.lt_or_ge off 1 with h3 | h3
      · obtain rfl : off = 0 := by omega
        simp at c1
      · rw [Array.getElem?_eq_none (by simpa using h3)] at c1
        simp at c1
    exact psSet h ⟨x, j, none⟩ v (fun p e => by cases e; exact hgx)
theorem mmReadW {w : World} {s H x c : Nat} {NA : List NdA} {N : List Nd} (hNA : N9 NA = N) {M : Int → Option (Option Lf9)} (h : IsMm w x c N M) (hS : IsShA w s H NA) (hc : c < 100000) (i : Nat) (hi : i < NA.length) :
    Calls Try.prog 121 #[mmV s x, .int .i64 ((i + 1 : Nat) : Int)] w (RdW w x NA[i].1 NA[i].2) := by
  cases hz : M ((i + 1 : Nat) : Int) with
  | none => exact mmNewW h hS hc i hi hz
  | some z =>
    obtain ⟨i', hi', g, cap, q1, q2, q3, q4⟩ := h.node _ z hz
    obtain rfl : i = i' := by omega
    subst q2
    obtain ⟨h1, e⟩ := n9_at hNA hi'
    have hg : gdA NA[i] := by
      by_cases hg : gdA NA[i]
      · exact hg
      · rw [e] at q3
        unfold toNd at q3
        rw [if_neg hg] at q3
        have := (q3.fits _ (List.mem_singleton.2 rfl)).1
        simp at this
    obtain ⟨e1, e2⟩ := toNd_good hg
    rw [← e] at e1 e2
    refine (mmReadHas h _ (by
      have := n9_len hNA hS
      simp [Lit.wf, IntKind.min, IntKind.max, IntKind.signed, IntKind.bits]
      omega) _ hz).mono ?_
    rintro e w' ⟨rfl, hk⟩
    have q5 := q3.old hk
    rw [e2] at q5
    exact ⟨_, cap, by unfold lf9; simp only; rw [e1, e2], q5, hk.mono fun k h => h.1⟩

set_option maxHeartbeats 1000000 in
set_option maxRecDepth 100000 in
theorem trReadW {w : World} {s H x c : Nat} {NA : List NdA} {N : List Nd} (hNA : N9 NA = N) {M : Int → Option (Option Lf9)} (h : IsMm w x c N M) (hS : IsShA w s H NA) (hc : c < 100000) (i : Nat) (hi : i < NA.length) :
    Calls Try.prog 69 #[mmI s x, .int .i64 ((i + 1 : Nat) : Int)] w (RdW w x NA[i].1 NA[i].2) := by
  have hmf : ∀ (fn : Fn) (first cap : Array Value) (w : World), (Instr.makeFunc fn first cap).run Try.prog w = .ok (.func fn first cap) w := fun _ _ _ _ => rfl
  obtain ⟨W, hW⟩ : ∃ W, (w.alloc (.cells #[.int .i64 0, .slice none 0 0] 27)).alloc (.cells #[.int .i64 0] 32) = W := ⟨_, rfl⟩
  have hk : KeptIn (· < w.heap.size) w W := by rw [← hW]; exact ((KeptIn.refl _ w).alloc (fun _ h => h) _).alloc (fun _ h => h) _
  have C := mmReadW hNA (h.old hk) (hS.old hk) hc i hi
  obtain ⟨p, hp⟩ : ∃ p : Int, ((i + 1 : Nat) : Int) = p := ⟨_, rfl⟩
  obtain ⟨lv, hlv⟩ : ∃ lv : Int, NA[i].1 = lv := ⟨_, rfl⟩
  obtain ⟨ps, hpe⟩ : ∃ ps, NA[i].2 = ps := ⟨_, rfl⟩
  rw [hp, hlv, hpe] at C
  rw [hp, hlv, hpe]
  have HC := Lib.hid C
  have HXL := Lib.hid h.lt
  obtain ⟨b, hx⟩ : ∃ b, w.heap.size = b := ⟨_, rfl⟩
  have hb : BoxL b 0 none 0 0 W := by rw [← hW, ← hx]; exact (BoxL.new w 0 none 0 0).kept ((KeptIn.refl _ _).alloc (fun _ h => h) _) (by simp)
  have hb2 : W.heap[b + 1]? = some (.cells #[.int .i64 0] 32 (0, 0)) := by
    rw [← hW, ← hx, show w.heap.size + 1 = (w.alloc (.cells #[.int .i64 0, .slice none 0 0] 27)).heap.size by simp]
    exact heap_alloc_new _ _
  have HB := Lib.hid (And.intro hb (And.intro hb2 (And.intro hk hx)))
  clear C hb hb2 hk hp hlv hpe hi hS h hNA
  unfold mmI mmV
  unfold mmV at HC
  go_enter_defers Try.func69, Try.ntmps69
  go_wp2_with (go_at_call 121; refine HC.out.mono ?_)
  rintro e V hR
  unfold RdW at hR
  obtain ⟨g, cap, rfl, hm, kV⟩ := hR
  have hbx : b ≠ x := fun e => by have := HXL.out; have := HB.out.2.2.2; omega
  have hbx1 : b + 1 ≠ x := fun e => by have := HXL.out; have := HB.out.2.2.2; omega
  have hbV := HB.out.1.kept kV ⟨HB.out.1.lt, hbx⟩
  have hb2V := (kV.block (b + 1) ⟨(Array.getElem?_eq_some_iff.1 HB.out.2.1).1, hbx1⟩).trans HB.out.2.1
  have c0 := hbV.c0; have f0 := hbV.f0; have c1 := hbV.c1; have f1 := hbV.f1
  have c2 : V.cell? ⟨b + 1, 0, none⟩ = some (.int .i64 0) := by simp [World.cell?, hb2V]
  have f2 : V.frozen? ⟨b + 1, 0, none⟩ = false := by simp [World.frozen?, hb2V]
  have hkx : KeptIn (fun j => j < w.heap.size ∧ j ≠ x) w V := (HB.out.2.2.1.mono fun k h => h.1).trans (kV.mono fun k h => ⟨Nat.lt_of_lt_of_le h.1 HB.out.2.2.1.size, h.2⟩)
  have HF := Lib.hid (And.intro hbV (And.intro hb2V (And.intro hm hkx)))
  obtain ⟨m, hml⟩ : ∃ m, ps.length = m := ⟨_, rfl⟩
  have HML := Lib.hid hml
  unfold leafV
  rw [hml]
  clear hbV hb2V hm hkx kV hml hbx hbx1
  go_wp2_with fail
  have hs0 : BoxL b lv none 0 0 (V.setCell ⟨b, 0, none⟩ (.int .i64 lv)) := (heap_setCell_same _ _ _ _ _ _ HF.out.1).trans rfl
  have hset := BoxL.set (lv' := lv) (a' := g) (n' := m) (cap' := cap) HF.out.1
  have hm5 := psBox (psBox HF.out.2.2.1 HF.out.1 0 (.int .i64 lv)) hs0 1 (.slice g m cap)
  have hset2 : BoxL b lv g m cap (((V.setCell ⟨b, 0, none⟩ (.int .i64 lv)).setCell ⟨b, 1, none⟩ (.slice g m cap)).setCell ⟨b + 1, 0, none⟩ (.int .i64 0)) := (heap_setCell_other _ _ _ _ (by simp)).trans hset
  have hb2W : ((V.setCell ⟨b, 0, none⟩ (.int .i64 lv)).setCell ⟨b, 1, none⟩ (.slice g m cap)).heap[b + 1]? = some (.cells #[.int .i64 0] 32 (0, 0)) := ((heap_setCell_other _ _ _ _ (by simp)).trans (heap_setCell_other _ _ _ _ (by simp))).trans HF.out.2.1
  have hm6 := psBoxE hm5 hb2W 0 (.int .i64 0)
  have hwb := HB.out.2.2.2
  have hkx := ((HF.out.2.2.2.setCell (p := ⟨b, 0, none⟩) (by intro h; have h1 : b < w.heap.size := h.1; omega) (.int .i64 lv)).setCell (p := ⟨b, 1, none⟩) (by intro h; have h1 : b < w.heap.size := h.1; omega) (.slice g m cap)).setCell (p := ⟨b + 1, 0, none⟩) (by intro h; have h1 : b + 1 < w.heap.size := h.1; omega) (.int .i64 0)
  have he : (((V.setCell ⟨b, 0, none⟩ (.int .i64 lv)).setCell ⟨b, 1, none⟩ (.slice g m cap)).setCell ⟨b + 1, 0, none⟩ (.int .i64 0)).cell? ⟨b + 1, 0, none⟩ = some (.int .i64 0) := World.cell?_setCell_same' _ _ _ (by
    simp [World.cell?, hb2W])
  obtain ⟨W9, hW9⟩ : ∃ W9, ((V.setCell ⟨b, 0, none⟩ (.int .i64 lv)).setCell ⟨b, 1, none⟩ (.slice g m cap)).setCell ⟨b + 1, 0, none⟩ (.int .i64 0) = W9 := ⟨_, rfl⟩
  rw [hW9] at hset2 hkx he hm6 ⊢
  clear hW9
  refine leaves_cons (f := 87) (args := #[.pointer (some ⟨b, 0, none⟩), .pointer (some ⟨b + 1, 0, none⟩)]) (by simp) (by simp [go_sem]) ?_
  refine (trRead1 _ _ _).mono ?_
  rintro e u' w'' ⟨rfl, rfl, rfl⟩
  exact ⟨_, results_leafE rfl _ _ b _ _ _ _ (b + 1) _ rfl rfl hset2 he, g, cap, by rw [HML.out], hm6, hkx⟩

set_option maxHeartbeats 2000000 in
set_option maxRecDepth 100000 in
theorem mmBadG {w : World} {s H x c : Nat} {NA : List NdA} {N : List Nd} (hNA : N9 NA = N) {M : Int → Option (Option Lf9)} (h : IsMm w x c N M) (hS : IsShA w s H NA) (p : Int) (hpw : (Lit.int .i64 p).wf = true) (hb : p < 1 ∨ (N.length : Int) < p) :
    Calls Try.prog 121 #[mmV s x, .int .i64 p] w (BadE 9 w) := by
  have hz : M p = none := by
    cases e : M p with
    | none => rfl
    | some z =>
      obtain ⟨i, hi, _, _, q1, _⟩ := h.node p z e
      omega
  obtain ⟨W, hW⟩ : ∃ W, (w.alloc (.cells #[pgV s, .map (some x)] 66)).alloc (.cells #[.int .i64 0, .slice none 0 0] 27) = W := ⟨_, rfl⟩
  have hk : KeptIn (· < w.heap.size) w W := by rw [← hW]; exact ((KeptIn.refl _ w).alloc (fun _ h => h) _).alloc (fun _ h => h) _
  have hlk := ((h.old hk).map.look lfV9_inj Try.underlying64 none (zeroLeaf9 W) p hpw).1
  rw [hz] at hlk
  obtain ⟨B, hB⟩ : ∃ B, w.heap.size = B := ⟨_, rfl⟩
  have b0 : W.heap[B]? = some (.cells #[pgV s, .map (some x)] 66 (0, 0)) := by
    rw [← hW, ← hB, Lib.alloc_old _ _ _ (by simp)]
    exact heap_alloc_new w _
  have b1 : BoxL (B + 1) 0 none 0 0 W := by
    have := BoxL.new (w.alloc (.cells #[pgV s, .map (some x)] 66)) 0 none 0 0
    rw [World.size_alloc, hB, hW] at this
    exact this
  have c1 : W.cell? ⟨B, 1, none⟩ = some (.map (some x)) := by simp [World.cell?, b0]
  have hkX : KeptIn (· < W.heap.size) W (W.alloc (.cells #[.int .i64 0, .slice none 0 0] 27)) := (KeptIn.refl _ W).alloc (fun _ h => h) _
  have hbl := BoxL.new W 0 none 0 0
  obtain ⟨X, hX⟩ : ∃ X, W.alloc (.cells #[.int .i64 0, .slice none 0 0] 27) = X := ⟨_, rfl⟩
  obtain ⟨y, hy⟩ : ∃ y, W.heap.size = y := ⟨_, rfl⟩
  rw [hX] at hkX hbl
  rw [hy] at hbl
  have CR := shBadA (hS.old (hk.trans (hkX.mono fun k h => Nat.lt_of_lt_of_le h hk.size))) p (by rw [← hNA, N9, List.length_map] at hb; exact hb)
  have hBy : B + 1 < y := by rw [← hy]; exact b1.lt
  have hb0X := (hkX.block B (Array.getElem?_eq_some_iff.1 b0).1).trans b0
  have hb1X := b1.kept hkX b1.lt
  have HW := Lib.hid hW; have HK := Lib.hid hk; have HB := Lib.hid hB; have HX := Lib.hid hX; have HY := Lib.hid hy
  have HC := Lib.hid CR
  have HBX := Lib.hid (And.intro hb0X (And.intro hb1X (And.intro hbl (And.intro hkX hBy))))
  have q0 : X.cell? ⟨B, 0, none⟩ = some (pgV s) := by simp [World.cell?, hb0X]
  simp only [lfV9, Option.getD_none, Option.isSome_none] at hlk
  unfold leafV at hlk
  unfold pgV at *
  unfold mmV pgV
  clear h hz hk hW b0 b1 hB hX hy hkX hbl CR hb0X hb1X hS hpw hBy hb hNA
  go_enter Try.func121, Try.ntmps121
  go_upto_region 1 with fail
  rw [HW.out, HB.out]
  go_upto_region 2 with fail
  rw [HX.out, HY.out]
  clear c1 hlk
  go_wp2_with (go_at_call 118; refine HC.out.mono ?_)
  rintro e V ⟨rfl, kV⟩
  have hb1V := HBX.out.2.1.kept kV HBX.out.2.1.lt
  have hblV := HBX.out.2.2.1.kept kV HBX.out.2.2.1.lt
  unfold leafV
  have d0 := hblV.c0; have d1 := hblV.c1; have e0 := hblV.f0; have e1 := hblV.f1
  have k1 : KeptIn (· ≠ y) V ((V.setCell ⟨y, 0, none⟩ (.int .i64 0)).setCell ⟨y, 1, none⟩ (.slice none 0 0)) := ((KeptIn.refl _ V).setCell (p := ⟨y, 0, none⟩) (by simp) _).setCell (p := ⟨y, 1, none⟩) (by simp) _
  obtain ⟨V1, hV1⟩ : ∃ V1, (V.setCell ⟨y, 0, none⟩ (.int .i64 0)).setCell ⟨y, 1, none⟩ (.slice none 0 0) = V1 := ⟨_, rfl⟩
  rw [hV1] at k1
  have hBy := HBX.out.2.2.2.2
  have hb11 := hb1V.kept k1 (by omega)
  have kw1 : KeptIn (· < w.heap.size) w V1 := by
    have hwW := HK.out.size
    have hz1 := HBX.out.2.2.2.1.size
    have hyw : w.heap.size ≤ y := by rw [← HY.out]; exact hwW
    exact ((HK.out.trans (HBX.out.2.2.2.1.mono fun k h => Nat.lt_of_lt_of_le h hwW)).trans (kV.mono fun k h => Nat.lt_of_lt_of_le h (Nat.le_trans hwW hz1))).trans (k1.mono fun k h => by show k ≠ y; omega)
  have HV1 := Lib.hid hV1
  have H1 := Lib.hid (And.intro hb11 kw1)
  clear hb1V hblV k1 hV1 hb11 kw1 kV hBy q0
  go_upto_region 5 with fail
  rw [HV1.out]
  clear d0 d1 e0 e1
  have z0 := H1.out.1.c0; have z1 := H1.out.1.c1; have f0 := H1.out.1.f0; have f1 := H1.out.1.f1
  have hset := BoxL.set (lv' := (0 : Int)) (a' := none) (n' := 0) (cap' := 0) H1.out.1
  have hkk := (H1.out.2.setCell (p := ⟨B + 1, 0, none⟩) (by simp [HB.out]) (.int .i64 0)).setCell (p := ⟨B + 1, 1, none⟩) (by simp [HB.out]) (.slice none 0 0)
  have HS := Lib.hid (And.intro hset hkk)
  clear hset hkk
  go_wp2_with fail
  try simp only [Exit.inBlock, Exit.then]
  refine bodyPost_ret (results_leaf rfl _ _ (B + 1) _ _ _ _ rfl HS.out.1) rfl ?_
  exact ⟨rfl, HS.out.2⟩

set_option maxHeartbeats 1000000 in
set_option maxRecDepth 100000 in
theorem trBadG {w : World} {s H x c : Nat} {NA : List NdA} {N : List Nd} (hNA : N9 NA = N) {M : Int → Option (Option Lf9)} (h : IsMm w x c N M) (hS : IsShA w s H NA) (p : Int) (hpw : (Lit.int .i64 p).wf = true) (hb : p < 1 ∨ (N.length : Int) < p) :
    Calls Try.prog 69 #[mmI s x, .int .i64 p] w (BadE 9 w) := by
  have hmf : ∀ (fn : Fn) (first cap : Array Value) (w : World), (Instr.makeFunc fn first cap).run Try.prog w = .ok (.func fn first cap) w := fun _ _ _ _ => rfl
  obtain ⟨W, hW⟩ : ∃ W, (w.alloc (.cells #[.int .i64 0, .slice none 0 0] 27)).alloc (.cells #[.int .i64 0] 32) = W := ⟨_, rfl⟩
  have hk : KeptIn (· < w.heap.size) w W := by rw [← hW]; exact ((KeptIn.refl _ w).alloc (fun _ h => h) _).alloc (fun _ h => h) _
  have HC := Lib.hid (mmBadG hNA (h.old hk) (hS.old hk) p hpw hb)
  obtain ⟨b, hx⟩ : ∃ b, w.heap.size = b := ⟨_, rfl⟩
  have hb : BoxL b 0 none 0 0 W := by rw [← hW, ← hx]; exact (BoxL.new w 0 none 0 0).kept ((KeptIn.refl _ _).alloc (fun _ h => h) _) (by simp)
  have hb2 : W.heap[b + 1]? = some (.cells #[.int .i64 0] 32 (0, 0)) := by
    rw [← hW, ← hx, show w.heap.size + 1 = (w.alloc (.cells #[.int .i64 0, .slice none 0 0] 27)).heap.size by simp]
    exact heap_alloc_new _ _
  have HB := Lib.hid (And.intro hb (And.intro hb2 (And.intro hk hx)))
  clear hb hb2 hk hpw hS h hNA
  unfold mmI mmV
  unfold mmV at HC
  go_enter_defers Try.func69, Try.ntmps69
  go_wp2_with (go_at_call 121; refine HC.out.mono ?_)
  rintro e V ⟨rfl, kV⟩
  have hbV := HB.out.1.kept kV HB.out.1.lt
  have hb2V := (kV.block (b + 1) (Array.getElem?_eq_some_iff.1 HB.out.2.1).1).trans HB.out.2.1
  have c0 := hbV.c0; have f0 := hbV.f0; have c1 := hbV.c1; have f1 := hbV.f1
  have c2 : V.cell? ⟨b + 1, 0, none⟩ = some (.int .i64 0) := by simp [World.cell?, hb2V]
  have f2 : V.frozen? ⟨b + 1, 0, none⟩ = false := by simp [World.frozen?, hb2V]
  have hkx : KeptIn (· < w.heap.size) w V := HB.out.2.2.1.trans (kV.mono fun k h => Nat.lt_of_lt_of_le h HB.out.2.2.1.size)
  have HF := Lib.hid (And.intro hbV (And.intro hb2V hkx))
  unfold leafV
  clear hbV hb2V hkx kV
  go_wp2_with fail
  have hset := BoxL.set (lv' := (0 : Int)) (a' := none) (n' := 0) (cap' := 0) HF.out.1
  have hset2 : BoxL b 0 none 0 0 (((V.setCell ⟨b, 0, none⟩ (.int .i64 0)).setCell ⟨b, 1, none⟩ (.slice none 0 0)).setCell ⟨b + 1, 0, none⟩ (.int .i64 9)) := (heap_setCell_other _ _ _ _ (by simp)).trans hset
  have hb2W : ((V.setCell ⟨b, 0, none⟩ (.int .i64 0)).setCell ⟨b, 1, none⟩ (.slice none 0 0)).heap[b + 1]? = some (.cells #[.int .i64 0] 32 (0, 0)) := ((heap_setCell_other _ _ _ _ (by simp)).trans (heap_setCell_other _ _ _ _ (by simp))).trans HF.out.2.1
  have hwb := HB.out.2.2.2
  have hkx := ((HF.out.2.2.setCell (p := ⟨b, 0, none⟩) (by intro h; have h1 : b < w.heap.size := h; omega) (.int .i64 0)).setCell (p := ⟨b, 1, none⟩) (by intro h; have h1 : b < w.heap.size := h; omega) (.slice none 0 0)).setCell (p := ⟨b + 1, 0, none⟩) (by intro h; have h1 : b + 1 < w.heap.size := h; omega) (.int .i64 9)
  have he : (((V.setCell ⟨b, 0, none⟩ (.int .i64 0)).setCell ⟨b, 1, none⟩ (.slice none 0 0)).setCell ⟨b + 1, 0, none⟩ (.int .i64 9)).cell? ⟨b + 1, 0, none⟩ = some (.int .i64 9) := World.cell?_setCell_same' _ _ _ (by
    simp [World.cell?, hb2W])
  obtain ⟨W9, hW9⟩ : ∃ W9, ((V.setCell ⟨b, 0, none⟩ (.int .i64 0)).setCell ⟨b, 1, none⟩ (.slice none 0 0)).setCell ⟨b + 1, 0, none⟩ (.int .i64 9) = W9 := ⟨_, rfl⟩
  rw [hW9] at hset2 hkx he ⊢
  clear hW9
  refine leaves_cons (f := 87) (args := #[.pointer (some ⟨b, 0, none⟩), .pointer (some ⟨b + 1, 0, none⟩)]) (by simp) (by simp [go_sem]) ?_
  refine (trRead1 _ _ _).mono ?_
  rintro e u' w'' ⟨rfl, rfl, rfl⟩
  exact ⟨_, results_leafE rfl _ _ b _ _ _ _ (b + 1) _ rfl rfl hset2 he, rfl, hkx⟩

end Go.Proofs.Ytdbohcdjamhdjaa
/- A page that isn't there: what the Shelf, a memo of it, and package tree's readings answer. -/
set_option linter.unusedVariables false
namespace Go.Proofs.Ytdbohcdjamhdjaa
open Go.RowKit

/-- No such page: nothing, and ErrRange. -/
def BadR (w : World) (e : Ending) (w' : World) : Prop := e = .returned (.tuple #[leafV 0 none 0 0, .int .i64 9]) ∧ KeptIn (· < w.heap.size) w w'

set_option maxRecDepth 100000 in
theorem shBad {w : World} {s room : Nat} {N : List Nd} {D : Nat → Prop} (h : IsSh w s room N D) (p : Int) (hp : p < 1 ∨ (N.length : Int) < p) :
    Calls Try.prog 118 #[.pointer (some ⟨s, 0, none⟩), .int .i64 p] w (BadR w) := by
  obtain ⟨la, cap, h1, _, _⟩ := h.mem
  have hsl : s < w.heap.size := h.lt s h.ds
  obtain ⟨n, hnl⟩ : ∃ n, N.length = n := ⟨_, rfl⟩
  rw [hnl] at h1 hp
  obtain ⟨W, hW⟩ : ∃ W, w.alloc (.cells #[.int .i64 0, .slice none 0 0] 27) = W := ⟨_, rfl⟩
  have hk : KeptIn (· < w.heap.size) w W := by rw [← hW]; exact (KeptIn.refl _ w).alloc (fun _ h => h) _
  have hr : BoxL w.heap.size 0 none 0 0 W := by rw [← hW]; exact BoxL.new w 0 none 0 0
  obtain ⟨x, hx⟩ : ∃ x, w.heap.size = x := ⟨_, rfl⟩
  have hsb := (hk.block s hsl).trans h1
  have c0 : W.cell? ⟨s, 0, none⟩ = some (.slice la n cap) := by simp [World.cell?, hsb]
  rw [hx] at hr
  have c3 := hr.c0
  have f3 := hr.f0
  have c4 := hr.c1
  have f4 := hr.f1
  have hset := BoxL.set (lv' := (0 : Int)) (a' := none) (n' := 0) (cap' := 0) hr
  have hkx : KeptIn (· < w.heap.size) w ((W.setCell ⟨x, 0, none⟩ (.int .i64 0)).setCell ⟨x, 1, none⟩ (.slice none 0 0)) := (hk.setCell (p := ⟨x, 0, none⟩) (by simp [hx]) (.int .i64 0)).setCell (p := ⟨x, 1, none⟩) (by simp [hx]) (.slice none 0 0)
  have HS := Lib.hid (And.intro hset hkx)
  have HW := Lib.hid hW
  have HX := Lib.hid hx
  clear hk hr hsb h1 h hsl hnl hset hkx hW hx
  have hd : (p < 1) = True ∨ ((p < 1) = False ∧ ((n : Int) < p) = True) := by
    by_cases e : p < 1
    · exact .inl (eq_true e)
    · exact .inr ⟨eq_false e, eq_true (by omega)⟩
  clear hp
  rcases hd with d1 | ⟨d1, d2⟩
  · go_enter Try.func118, Try.ntmps118
    go_upto_region 3 with fail
    rw [HW.out, HX.out]
    go_wp2_with fail
    try simp only [Exit.inBlock, Exit.then]
    refine bodyPost_ret (results_leaf rfl _ _ x _ _ _ _ rfl HS.out.1) rfl ?_
    exact ⟨rfl, HS.out.2⟩
  · go_enter Try.func118, Try.ntmps118
    go_upto_region 3 with fail
    rw [HW.out, HX.out]
    go_wp2_with fail
    try simp only [Exit.inBlock, Exit.then]
    refine bodyPost_ret (results_leaf rfl _ _ x _ _ _ _ rfl HS.out.1) rfl ?_
    exact ⟨rfl, HS.out.2⟩

set_option maxHeartbeats 2000000 in
set_option maxRecDepth 100000 in
theorem mmBad {w : World} {s room x c : Nat} {N : List Nd} {D : Nat → Prop} {M : Int → Option (Option Lf9)} (h : IsMm w x c N M) (hS : IsSh w s room N D) (p : Int) (hpw : (Lit.int .i64 p).wf = true) (hb : p < 1 ∨ (N.length : Int) < p) :
    Calls Try.prog 121 #[mmV s x, .int .i64 p] w (BadR w) := by
  have hz : M p = none := by
    cases e : M p with
    | none => rfl
    | some z =>
      obtain ⟨i, hi, _, _, q1, _⟩ := h.node p z e
      omega
  obtain ⟨W, hW⟩ : ∃ W, (w.alloc (.cells #[pgV s, .map (some x)] 66)).alloc (.cells #[.int .i64 0, .slice none 0 0] 27) = W := ⟨_, rfl⟩
  have hk : KeptIn (· < w.heap.size) w W := by rw [← hW]; exact ((KeptIn.refl _ w).alloc (fun _ h => h) _).alloc (fun _ h => h) _
  have hlk := ((h.old hk).map.look lfV9_inj Try.underlying64 none (zeroLeaf9 W) p hpw).1
  rw [hz] at hlk
  obtain ⟨B, hB⟩ : ∃ B, w.heap.size = B := ⟨_, rfl⟩
  have b0 : W.heap[B]? = some (.cells #[pgV s, .map (some x)] 66 (0, 0)) := by
    rw [← hW, ← hB, Lib.alloc_old _ _ _ (by simp)]
    exact heap_alloc_new w _
  have b1 : BoxL (B + 1) 0 none 0 0 W := by
    have := BoxL.new (w.alloc (.cells #[pgV s, .map (some x)] 66)) 0 none 0 0
    rw [World.size_alloc, hB, hW] at this
    exact this
  have c1 : W.cell? ⟨B, 1, none⟩ = some (.map (some x)) := by simp [World.cell?, b0]
  have hkX : KeptIn (· < W.heap.size) W (W.alloc (.cells #[.int .i64 0, .slice none 0 0] 27)) := (KeptIn.refl _ W).alloc (fun _ h => h) _
  have hbl := BoxL.new W 0 none 0 0
  obtain ⟨X, hX⟩ : ∃ X, W.alloc (.cells #[.int .i64 0, .slice none 0 0] 27) = X := ⟨_, rfl⟩
  obtain ⟨y, hy⟩ : ∃ y, W.heap.size = y := ⟨_, rfl⟩
  rw [hX] at hkX hbl
  rw [hy] at hbl
  have CR := shBad (hS.old (hk.trans (hkX.mono fun k h => Nat.lt_of_lt_of_le h hk.size))) p hb
  have hBy : B + 1 < y := by rw [← hy]; exact b1.lt
  have hb0X := (hkX.block B (Array.getElem?_eq_some_iff.1 b0).1).trans b0
  have hb1X := b1.kept hkX b1.lt
  have HW := Lib.hid hW; have HK := Lib.hid hk; have HB := Lib.hid hB; have HX := Lib.hid hX; have HY := Lib.hid hy
  have HC := Lib.hid CR
  have HBX := Lib.hid (And.intro hb0X (And.intro hb1X (And.intro hbl (And.intro hkX hBy))))
  have q0 : X.cell? ⟨B, 0, none⟩ = some (pgV s) := by simp [World.cell?, hb0X]
  simp only [lfV9, Option.getD_none, Option.isSome_none] at hlk
  unfold leafV at hlk
  unfold pgV at *
  unfold mmV pgV
  clear h hz hk hW b0 b1 hB hX hy hkX hbl CR hb0X hb1X hS hpw hBy hb
  go_enter Try.func121, Try.ntmps121
  go_upto_region 1 with fail
  rw [HW.out, HB.out]
  go_upto_region 2 with fail
  rw [HX.out, HY.out]
  clear c1 hlk
  go_wp2_with (go_at_call 118; refine HC.out.mono ?_)
  rintro e V ⟨rfl, kV⟩
  have hb1V := HBX.out.2.1.kept kV HBX.out.2.1.lt
  have hblV := HBX.out.2.2.1.kept kV HBX.out.2.2.1.lt
  unfold leafV
  have d0 := hblV.c0; have d1 := hblV.c1; have e0 := hblV.f0; have e1 := hblV.f1
  have k1 : KeptIn (· ≠ y) V ((V.setCell ⟨y, 0, none⟩ (.int .i64 0)).setCell ⟨y, 1, none⟩ (.slice none 0 0)) := ((KeptIn.refl _ V).setCell (p := ⟨y, 0, none⟩) (by simp) _).setCell (p := ⟨y, 1, none⟩) (by simp) _
  obtain ⟨V1, hV1⟩ : ∃ V1, (V.setCell ⟨y, 0, none⟩ (.int .i64 0)).setCell ⟨y, 1, none⟩ (.slice none 0 0) = V1 := ⟨_, rfl⟩
  rw [hV1] at k1
  have hBy := HBX.out.2.2.2.2
  have hb11 := hb1V.kept k1 (by omega)
  have kw1 : KeptIn (· < w.heap.size) w V1 := by
    have hwW := HK.out.size
    have hz1 := HBX.out.2.2.2.1.size
    have hyw : w.heap.size ≤ y := by rw [← HY.out]; exact hwW
    exact ((HK.out.trans (HBX.out.2.2.2.1.mono fun k h => Nat.lt_of_lt_of_le h hwW)).trans (kV.mono fun k h => Nat.lt_of_lt_of_le h (Nat.le_trans hwW hz1))).trans (k1.mono fun k h => by show k ≠ y; omega)
  have HV1 := Lib.hid hV1
  have H1 := Lib.hid (And.intro hb11 kw1)
  clear hb1V hblV k1 hV1 hb11 kw1 kV hBy q0
  go_upto_region 5 with fail
  rw [HV1.out]
  clear d0 d1 e0 e1
  have z0 := H1.out.1.c0; have z1 := H1.out.1.c1; have f0 := H1.out.1.f0; have f1 := H1.out.1.f1
  have hset := BoxL.set (lv' := (0 : Int)) (a' := none) (n' := 0) (cap' := 0) H1.out.1
  have hkk := (H1.out.2.setCell (p := ⟨B + 1, 0, none⟩) (by simp [HB.out]) (.int .i64 0)).setCell (p := ⟨B + 1, 1, none⟩) (by simp [HB.out]) (.slice none 0 0)
  have HS := Lib.hid (And.intro hset hkk)
  clear hset hkk
  go_wp2_with fail
  try simp only [Exit.inBlock, Exit.then]
  refine bodyPost_ret (results_leaf rfl _ _ (B + 1) _ _ _ _ rfl HS.out.1) rfl ?_
  exact ⟨rfl, HS.out.2⟩

set_option maxHeartbeats 1000000 in
set_option maxRecDepth 100000 in
theorem trBadM {w : World} {s room x c : Nat} {N : List Nd} {D : Nat → Prop} {M : Int → Option (Option Lf9)} (h : IsMm w x c N M) (hS : IsSh w s room N D) (p : Int) (hpw : (Lit.int .i64 p).wf = true) (hb : p < 1 ∨ (N.length : Int) < p) :
    Calls Try.prog 69 #[mmI s x, .int .i64 p] w (BadR w) := by
  have hmf : ∀ (fn : Fn) (first cap : Array Value) (w : World), (Instr.makeFunc fn first cap).run Try.prog w = .ok (.func fn first cap) w := fun _ _ _ _ => rfl
  obtain ⟨W, hW⟩ : ∃ W, (w.alloc (.cells #[.int .i64 0, .slice none 0 0] 27)).alloc (.cells #[.int .i64 0] 32) = W := ⟨_, rfl⟩
  have hk : KeptIn (· < w.heap.size) w W := by rw [← hW]; exact ((KeptIn.refl _ w).alloc (fun _ h => h) _).alloc (fun _ h => h) _
  have HC := Lib.hid (mmBad (h.old hk) (hS.old hk) p hpw hb)
  obtain ⟨b, hx⟩ : ∃ b, w.heap.size = b := ⟨_, rfl⟩
  have hb : BoxL b 0 none 0 0 W := by rw [← hW, ← hx]; exact (BoxL.new w 0 none 0 0).kept ((KeptIn.refl _ _).alloc (fun _ h => h) _) (by simp)
  have hb2 : W.heap[b + 1]? = some (.cells #[.int .i64 0] 32 (0, 0)) := by
    rw [← hW, ← hx, show w.heap.size + 1 = (w.alloc (.cells #[.int .i64 0, .slice none 0 0] 27)).heap.size by simp]
    exact heap_alloc_new _ _
  have HB := Lib.hid (And.intro hb (And.intro hb2 (And.intro hk hx)))
  clear hb hb2 hk hpw hS h
  unfold mmI mmV
  unfold mmV at HC
  go_enter_defers Try.func69, Try.ntmps69
  go_wp2_with (go_at_call 121; refine HC.out.mono ?_)
  rintro e V ⟨rfl, kV⟩
  have hbV := HB.out.1.kept kV HB.out.1.lt
  have hb2V := (kV.block (b + 1) (Array.getElem?_eq_some_iff.1 HB.out.2.1).1).trans HB.out.2.1
  have c0 := hbV.c0; have f0 := hbV.f0; have c1 := hbV.c1; have f1 := hbV.f1
  have c2 : V.cell? ⟨b + 1, 0, none⟩ = some (.int .i64 0) := by simp [World.cell?, hb2V]
  have f2 : V.frozen? ⟨b + 1, 0, none⟩ = false := by simp [World.frozen?, hb2V]
  have hkx : KeptIn (· < w.heap.size) w V := HB.out.2.2.1.trans (kV.mono fun k h => Nat.lt_of_lt_of_le h HB.out.2.2.1.size)
  have HF := Lib.hid (And.intro hbV (And.intro hb2V hkx))
  unfold leafV
  clear hbV hb2V hkx kV
  go_wp2_with fail
  have hset := BoxL.set (lv' := (0 : Int)) (a' := none) (n' := 0) (cap' := 0) HF.out.1
  have hset2 : BoxL b 0 none 0 0 (((V.setCell ⟨b, 0, none⟩ (.int .i64 0)).setCell ⟨b, 1, none⟩ (.slice none 0 0)).setCell ⟨b + 1, 0, none⟩ (.int .i64 9)) := (heap_setCell_other _ _ _ _ (by simp)).trans hset
  have hb2W : ((V.setCell ⟨b, 0, none⟩ (.int .i64 0)).setCell ⟨b, 1, none⟩ (.slice none 0 0)).heap[b + 1]? = some (.cells #[.int .i64 0] 32 (0, 0)) := ((heap_setCell_other _ _ _ _ (by simp)).trans (heap_setCell_other _ _ _ _ (by simp))).trans HF.out.2.1
  have hwb := HB.out.2.2.2
  have hkx := ((HF.out.2.2.setCell (p := ⟨b, 0, none⟩) (by intro h; have h1 : b < w.heap.size := h; omega) (.int .i64 0)).setCell (p := ⟨b, 1, none⟩) (by intro h; have h1 : b < w.heap.size := h; omega) (.slice none 0 0)).setCell (p := ⟨b + 1, 0, none⟩) (by intro h; have h1 : b + 1 < w.heap.size := h; omega) (.int .i64 9)
  have he : (((V.setCell ⟨b, 0, none⟩ (.int .i64 0)).setCell ⟨b, 1, none⟩ (.slice none 0 0)).setCell ⟨b + 1, 0, none⟩ (.int .i64 9)).cell? ⟨b + 1, 0, none⟩ = some (.int .i64 9) := World.cell?_setCell_same' _ _ _ (by
    simp [World.cell?, hb2W])
  obtain ⟨W9, hW9⟩ : ∃ W9, ((V.setCell ⟨b, 0, none⟩ (.int .i64 0)).setCell ⟨b, 1, none⟩ (.slice none 0 0)).setCell ⟨b + 1, 0, none⟩ (.int .i64 9) = W9 := ⟨_, rfl⟩
  rw [hW9] at hset2 hkx he ⊢
  clear hW9
  refine leaves_cons (f := 87) (args := #[.pointer (some ⟨b, 0, none⟩), .pointer (some ⟨b + 1, 0, none⟩)]) (by simp) (by simp [go_sem]) ?_
  refine (trRead1 _ _ _).mono ?_
  rintro e u' w'' ⟨rfl, rfl, rfl⟩
  exact ⟨_, results_leafE rfl _ _ b _ _ _ _ (b + 1) _ rfl rfl hset2 he, rfl, hkx⟩

end Go.Proofs.Ytdbohcdjamhdjaa
