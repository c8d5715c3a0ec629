import Derived.Test.YtjollbaohopmjaaMpW
import Derived.Test.YtjollbaohopmjaaV4
import Derived.Deep.Cut
import Derived.Deep.CutRange
/- Package reach's memo: pages that remember their nodes: what it keeps; Read of a node that it has, and of one that it hasn't. -/
set_option linter.unusedVariables false
namespace Go.Proofs.Ytjollbaohopmjaa
open Go.RowKit

/-- A node as memo keeps it: level, pairs' block, how many, room. -/
abbrev Lf9 := Int × Nat × Nat × Nat
def lf9 (z : Lf9) : Value := leafV z.1 (some ⟨z.2.1, 0, none⟩) z.2.2.1 z.2.2.2
/-- The zero of a map's element, too. -/
def lfV9 : Option Lf9 → Value
  | none => leafV 0 none 0 0
  | some z => lf9 z
theorem lfV9_inj (a b : Option Lf9) (h : lfV9 a = lfV9 b) : a = b := by
  cases a with
  | none => cases b with
    | none => rfl
    | some y =>
      obtain ⟨l, g, n, c⟩ := y
      simp [lfV9, lf9, leafV] at h
  | some x => cases b with
    | none =>
      obtain ⟨l, g, n, c⟩ := x
      simp [lfV9, lf9, leafV] at h
    | some y =>
      obtain ⟨l, g, n, c⟩ := x
      obtain ⟨l', g', n', c'⟩ := y
      simp [lfV9, lf9, leafV] at h
      obtain ⟨rfl, rfl, rfl, rfl⟩ := h
      rfl
theorem zeroLeaf9 (w : World) : (zeroValue 27).run Try.prog w = .ok (lfV9 none) w := by
  have : (zeroValue 27).run Try.prog w = .ok (.agg #[.int .i64 0, .slice none 0 0]) w := by kernel_rfl
  rw [this]
  rfl

/-- memo as pages. -/
def mmV (s x : Nat) : Value := .agg #[pgV s, .map (some x)]
def mmI (s x : Nat) : Value := .iface 60 (mmV s x)

/-- What memo keeps (its map lies in block x): nodes of the Shelf. -/
structure IsMm (W : World) (x c : Nat) (N : List Nd) (M : Int → Option (Option Lf9)) : Prop where
  map : MpAt lfV9 x c M W
  node : ∀ p z, M p = some z → ∃ (i : Nat) (h : i < N.length) (g cap : Nat), p = ((i + 1 : Nat) : Int) ∧ z = some ((N[i].1 : Int), g, N[i].2.length, cap) ∧ IsPs W (some ⟨g, 0, none⟩) N[i].2 ∧ TyC W g N[i].2.length cap

section
variable {W W' : World} {x c : Nat} {N : List Nd} {M : Int → Option (Option Lf9)}
theorem IsMm.lt (h : IsMm W x c N M) : x < W.heap.size := h.map.lt
theorem IsMm.old (h : IsMm W x c N M) (hk : KeptIn (· < W.heap.size) W W') : IsMm W' x c N M :=
  ⟨h.map.kept hk h.lt, fun p z hz => by
    obtain ⟨i, hi, g, cap, h1, h2, h3, h4⟩ := h.node p z hz
    exact ⟨i, hi, g, cap, h1, h2, h3.old hk, h4.old hk⟩⟩
theorem TyP.ne_map (h : TyP W x) {b n : Nat} {α : Type} {V : α → Value} {M : Int → Option α} (k : MpAt V b n M W) : x ≠ b := by
  obtain ⟨cs, fr, h⟩ := h
  exact k.ne h
theorem psNotMap {α : Type} {V : α → Value} {n : Nat} {M : Int → Option α} {a : Option Addr} {ps : Pairs} (h : IsPs W a ps) (h0 : 0 < ps.length) (k : MpAt V x n M W) (hk : KeptIn (fun j => j < W.heap.size ∧ j ≠ x) W W') : IsPs W' a ps :=
  ⟨h.len, h.fits, fun hp => by
    obtain ⟨b, off, e, hb, hc⟩ := h.cells hp
    have hn : b ≠ x := fun e2 => by
      obtain ⟨u0, _⟩ := hc 0 hp
      subst e2
      obtain ⟨D, ⟨es, clock, h1, _⟩, _⟩ := k
      simp [World.cell?, h1] at u0
    exact ⟨b, off, e, Nat.lt_of_lt_of_le hb hk.size, fun i hi => ⟨(World.cell?_of_block (a := ⟨b, off + i * 2, none⟩) (hk.block b ⟨hb, hn⟩)).trans (hc i hi).1, (World.cell?_of_block (a := ⟨b, off + i * 2 + 1, none⟩) (hk.block b ⟨hb, hn⟩)).trans (hc i hi).2⟩⟩⟩
end

/-- What Read leaves, where memo has the node. -/
def MmH (w : World) (z : Lf9) (e : Ending) (w' : World) : Prop :=
  e = .returned (.tuple #[lf9 z, .int .i64 0]) ∧ KeptIn (· < w.heap.size) w w'

set_option maxHeartbeats 1000000 in
set_option maxRecDepth 100000 in
theorem mmReadHas {w : World} {s x c : Nat} {N : List Nd} {M : Int → Option (Option Lf9)} (h : IsMm w x c N M) (p : Int) (hp : (Lit.int .i64 p).wf = true) (z : Lf9) (hz : M p = some (some z)) :
    Calls Try.prog 111 #[mmV s x, .int .i64 p] w (MmH w z) := by
  obtain ⟨W, hW⟩ : ∃ W, (w.alloc (.cells #[pgV s, .map (some x)] 60)).alloc (.cells #[.int .i64 0, .slice none 0 0] 27) = W := ⟨_, rfl⟩
  have hk : KeptIn (· < w.heap.size) w W := by rw [← hW]; exact ((KeptIn.refl _ w).alloc (fun _ h => h) _).alloc (fun _ h => h) _
  have hlk := ((h.old hk).map.look lfV9_inj Try.underlying58 none (zeroLeaf9 W) p hp).1
  rw [hz] at hlk
  obtain ⟨lv, g, n, cap⟩ := z
  obtain ⟨B, hB⟩ : ∃ B, w.heap.size = B := ⟨_, rfl⟩
  have b0 : W.heap[B]? = some (.cells #[pgV s, .map (some x)] 60 (0, 0)) := by
    rw [← hW, ← hB, Lib.alloc_old _ _ _ (by simp)]
    exact heap_alloc_new w _
  have b1 : BoxL (B + 1) 0 none 0 0 W := by
    have := BoxL.new (w.alloc (.cells #[pgV s, .map (some x)] 60)) 0 none 0 0
    rw [World.size_alloc, hB, hW] at this
    exact this
  have c1 : W.cell? ⟨B, 1, none⟩ = some (.map (some x)) := by simp [World.cell?, b0]
  have HW := Lib.hid hW; have HK := Lib.hid hk; have HB := Lib.hid hB; have HB1 := Lib.hid b1
  simp only [lfV9, lf9, Option.getD_some, Option.isSome_some] at hlk
  unfold leafV at hlk
  unfold pgV at *
  unfold mmV pgV
  clear h hz hk hW b0 b1 hB
  go_enter Try.func111, Try.ntmps111
  go_upto_region 1 with fail
  rw [HW.out, HB.out]
  go_upto_region 2 with fail
  have hkX : KeptIn (· < W.heap.size) W (W.alloc (.cells #[.int .i64 lv, .slice (some ⟨g, 0, none⟩) n cap] 27)) := (KeptIn.refl _ W).alloc (fun _ h => h) _
  have hbl := BoxL.new W lv (some ⟨g, 0, none⟩) n cap
  have hb1 := HB1.out.kept hkX HB1.out.lt
  obtain ⟨X, hX⟩ : ∃ X, W.alloc (.cells #[.int .i64 lv, .slice (some ⟨g, 0, none⟩) n cap] 27) = X := ⟨_, rfl⟩
  obtain ⟨y, hy⟩ : ∃ y, W.heap.size = y := ⟨_, rfl⟩
  rw [hX] at hkX hbl hb1 ⊢
  rw [hy] at hbl ⊢
  have d0 := hbl.c0; have d1 := hbl.c1
  have z0 := hb1.c0; have z1 := hb1.c1; have f0 := hb1.f0; have f1 := hb1.f1
  have hset := BoxL.set (lv' := lv) (a' := some ⟨g, 0, none⟩) (n' := n) (cap' := cap) hb1
  have hkk := ((HK.out.trans (hkX.mono fun k hk => Nat.lt_of_lt_of_le hk HK.out.size)).setCell (p := ⟨B + 1, 0, none⟩) (by simp [HB.out]) (.int .i64 lv)).setCell (p := ⟨B + 1, 1, none⟩) (by simp [HB.out]) (.slice (some ⟨g, 0, none⟩) n cap)
  have HS := Lib.hid (And.intro hset hkk)
  clear hkX hbl hb1 hX hy hset hkk c1 hlk
  go_wp2_with fail
  try simp only [Exit.inBlock, Exit.then]
  refine bodyPost_ret (results_leaf rfl _ _ (B + 1) _ _ _ _ rfl HS.out.1) rfl ?_
  exact ⟨rfl, HS.out.2⟩

end Go.Proofs.Ytjollbaohopmjaa
