/- Places: the pair of a place. -/
import Derived.Test.YtdbanlifneomgaaPa14
set_option linter.unusedVariables false
namespace Go.Proofs.Ytdbanlifneomgaa
open Go.RowKit

def keyP (x : Pla) : Nat := 8589934592 + x.ch.toNat
def valP (x : Pla) : Nat := x.tier.toNat + x.slot.toNat * 256

/-- A place, boxed. -/
def BoxPl (y : Nat) (x : Pla) (W : World) : Prop := W.heap[y]? = some (.cells #[.int .i64 x.ch, .int .i64 x.tier, .int .i64 x.slot] 47 (0, 0))
/-- A spot, boxed. -/
def BoxSp (y : Nat) (t s : Int) (W : World) : Prop := W.heap[y]? = some (.cells #[.int .i64 t, .int .i64 s] 45 (0, 0))
section
variable {y : Nat} {x : Pla} {t s : Int} {W W' : World}
theorem BoxPl.c0 (h : BoxPl y x W) : W.cell? ⟨y, 0, none⟩ = some (.int .i64 x.ch) := by simp [World.cell?, show W.heap[y]? = _ from h]
theorem BoxPl.c1 (h : BoxPl y x W) : W.cell? ⟨y, 1, none⟩ = some (.int .i64 x.tier) := by simp [World.cell?, show W.heap[y]? = _ from h]
theorem BoxPl.c2 (h : BoxPl y x W) : W.cell? ⟨y, 2, none⟩ = some (.int .i64 x.slot) := by simp [World.cell?, show W.heap[y]? = _ from h]
theorem BoxPl.fr (h : BoxPl y x W) (i : Nat) : W.frozen? ⟨y, i, none⟩ = false := by simp [World.frozen?, show W.heap[y]? = _ from h]
theorem BoxPl.lt (h : BoxPl y x W) : y < W.heap.size := (Array.getElem?_eq_some_iff.1 h).1
theorem BoxPl.kept {X : Nat → Prop} (h : BoxPl y x W) (hk : KeptIn X W W') (hX : X y) : BoxPl y x W' := (hk.block y hX).trans h
theorem BoxPl.new (w : World) (x : Pla) : BoxPl w.heap.size x (w.alloc (.cells #[.int .i64 x.ch, .int .i64 x.tier, .int .i64 x.slot] 47)) := heap_alloc_new w _
theorem BoxPl.set (h : BoxPl y x W) (u : Pla) : BoxPl y u (((W.setCell ⟨y, 0, none⟩ (.int .i64 u.ch)).setCell ⟨y, 1, none⟩ (.int .i64 u.tier)).setCell ⟨y, 2, none⟩ (.int .i64 u.slot)) := by
  have h1 : (W.setCell ⟨y, 0, none⟩ (.int .i64 u.ch)).heap[y]? = _ := heap_setCell_same _ _ _ _ _ _ h
  have h2 : ((W.setCell ⟨y, 0, none⟩ (.int .i64 u.ch)).setCell ⟨y, 1, none⟩ (.int .i64 u.tier)).heap[y]? = _ := heap_setCell_same _ _ _ _ _ _ h1
  have h3 : (((W.setCell ⟨y, 0, none⟩ (.int .i64 u.ch)).setCell ⟨y, 1, none⟩ (.int .i64 u.tier)).setCell ⟨y, 2, none⟩ (.int .i64 u.slot)).heap[y]? = _ := heap_setCell_same _ _ _ _ _ _ h2
  exact h3.trans rfl
theorem BoxSp.c0 (h : BoxSp y t s W) : W.cell? ⟨y, 0, none⟩ = some (.int .i64 t) := by simp [World.cell?, show W.heap[y]? = _ from h]
theorem BoxSp.c1 (h : BoxSp y t s W) : W.cell? ⟨y, 1, none⟩ = some (.int .i64 s) := by simp [World.cell?, show W.heap[y]? = _ from h]
theorem BoxSp.fr (h : BoxSp y t s W) (i : Nat) : W.frozen? ⟨y, i, none⟩ = false := by simp [World.frozen?, show W.heap[y]? = _ from h]
theorem BoxSp.lt (h : BoxSp y t s W) : y < W.heap.size := (Array.getElem?_eq_some_iff.1 h).1
theorem BoxSp.kept {X : Nat → Prop} (h : BoxSp y t s W) (hk : KeptIn X W W') (hX : X y) : BoxSp y t s W' := (hk.block y hX).trans h
theorem BoxSp.new (w : World) (t s : Int) : BoxSp w.heap.size t s (w.alloc (.cells #[.int .i64 t, .int .i64 s] 45)) := heap_alloc_new w _
theorem BoxSp.set (h : BoxSp y t s W) (t' s' : Int) : BoxSp y t' s' ((W.setCell ⟨y, 0, none⟩ (.int .i64 t')).setCell ⟨y, 1, none⟩ (.int .i64 s')) := by
  have h1 : (W.setCell ⟨y, 0, none⟩ (.int .i64 t')).heap[y]? = _ := heap_setCell_same _ _ _ _ _ _ h
  have h2 : ((W.setCell ⟨y, 0, none⟩ (.int .i64 t')).setCell ⟨y, 1, none⟩ (.int .i64 s')).heap[y]? = _ := heap_setCell_same _ _ _ _ _ _ h1
  exact h2.trans rfl
end
theorem results_pla_tmp {fn : Func} {p u : Tmp} (h : fn.results = #[.cell p 47, .tmp u]) (tmps : Array Value) (w : World) (y : Nat) (x : Pla)
    (hp : tmps.getD p undef = .pointer (some ⟨y, 0, none⟩)) (hb : BoxPl y x w) : (results fn tmps).run Try.prog w = .ok (.tuple #[plaV x, tmps.getD u undef]) w := by
  have hr := run_loadVar_row (P := Try.prog) w y 47 47 _ _ _ hb Try.underlying47 rfl (by kernel_rfl)
  rw [results_cell_tmp h, hp]
  simp [asAddr, hr, plaV]

theorem plKey (ch : Int) (w : World) : Calls Try.prog 33 #[.int .i64 ch] w fun e w' => e = .returned (.int .u64 (IntKind.u64.wrap (8589934592 + ch))) ∧ w' = w := by
  go_enter Try.func33, Try.ntmps33
  go_wp2_with fail
  go_ret
  refine ⟨?_, rfl⟩
  have : IntKind.u64.wrap (8589934592 + IntKind.u64.wrap ch) = IntKind.u64.wrap (8589934592 + ch) := by
    simp only [IntKind.wrap_u64]
    omega
  exact congrArg (fun x => Ending.returned (Value.int .u64 x)) this

/-- A good place's parts are numbers. -/
theorem goodP_nats {x : Pla} (h : GoodP x) : ∃ a b c : Nat, x = ⟨(a : Int), (b : Int), (c : Int)⟩ ∧ 1 ≤ a ∧ a ≤ 1023 ∧ b ≤ 1 ∧ c ≤ 255 := by
  obtain ⟨ch, tier, slot⟩ := x
  obtain ⟨g1, g2, g3, g4, g5⟩ := h
  simp only at g1 g2 g3 g4 g5
  refine ⟨ch.toNat, tier.toNat, slot.toNat, ?_, by omega, by omega, by omega, by omega⟩
  rw [Int.toNat_of_nonneg (by omega), Int.toNat_of_nonneg (by omega), Int.toNat_of_nonneg g4]
theorem pla_num (a b c : Nat) : ((keyP ⟨(a : Int), (b : Int), (c : Int)⟩ : Nat) : Int) = 8589934592 + (a : Int) ∧ ((valP ⟨(a : Int), (b : Int), (c : Int)⟩ : Nat) : Int) = (b : Int) + (c : Int) * 256 := by
  refine ⟨by unfold keyP; simp only; omega, ?_⟩
  unfold valP
  simp only
  omega

def PairP (w : World) (x : Pla) (e : Ending) (w' : World) : Prop :=
  e = .returned (if GoodP x then .tuple #[pairV (keyP x, valP x), .int .i64 0] else .tuple #[pairV (0, 0), .int .i64 1]) ∧ KeptIn (· < w.heap.size) w w'

theorem pl_start (w : World) (x : Pla) : ∀ V, KeptIn (· < ((w.alloc (.cells #[.int .i64 x.ch, .int .i64 x.tier, .int .i64 x.slot] 47)).alloc (.cells #[.int .u64 0, .int .u64 0] 50)).heap.size) ((w.alloc (.cells #[.int .i64 x.ch, .int .i64 x.tier, .int .i64 x.slot] 47)).alloc (.cells #[.int .u64 0, .int .u64 0] 50)) V → BoxPl w.heap.size x V ∧ BoxP (w.heap.size + 1) 0 0 V ∧ KeptIn (· < w.heap.size) w V := by
  intro V hk
  have h1 := BoxPl.new w x
  obtain ⟨W1, hW1⟩ : ∃ W1, w.alloc (.cells #[.int .i64 x.ch, .int .i64 x.tier, .int .i64 x.slot] 47) = W1 := ⟨_, rfl⟩
  have hk1 : KeptIn (· < w.heap.size) w W1 := by rw [← hW1]; exact (KeptIn.refl _ w).alloc (fun _ h => h) _
  have hs : W1.heap.size = w.heap.size + 1 := by rw [← hW1]; simp
  rw [hW1] at h1 hk
  have h2 : BoxP W1.heap.size 0 0 (W1.alloc (.cells #[.int .u64 0, .int .u64 0] 50)) := BoxP.new W1 0 0
  have hk2 : KeptIn (· < W1.heap.size) W1 (W1.alloc (.cells #[.int .u64 0, .int .u64 0] 50)) := (KeptIn.refl _ W1).alloc (fun _ h => h) _
  rw [hs] at h2
  have hk3 := hk2.go hk
  exact ⟨h1.kept hk3 h1.lt, h2.kept hk h2.lt, hk1.go hk3⟩

set_option maxHeartbeats 1000000 in
theorem plPair (x : Pla) (w : World) : Calls Try.prog 12 #[plaV x] w (PairP w x) := by
  unfold PairP
  by_cases hg : GoodP x
  · rw [if_pos hg]
    obtain ⟨a, b, c, hv, ha1, ha, hb, hc⟩ := goodP_nats hg
    subst hv
    obtain ⟨hk1, hx1⟩ := pla_num a b c
    obtain ⟨K, hK⟩ : ∃ K, keyP ⟨(a : Int), (b : Int), (c : Int)⟩ = K := ⟨_, rfl⟩
    obtain ⟨X, hX⟩ : ∃ X, valP ⟨(a : Int), (b : Int), (c : Int)⟩ = X := ⟨_, rfl⟩
    rw [hK] at hk1 ⊢
    rw [hX] at hx1 ⊢
    have HKX := Lib.hid (And.intro hk1 hx1)
    clear hk1 hx1 hK hX
    have HG := Lib.hid fun W => plCan ⟨(a : Int), (b : Int), (c : Int)⟩ W
    rw [decide_eq_true hg] at HG
    have HK := Lib.hid fun W => plKey (a : Int) W
    unfold plaV at HG ⊢
    simp only at HG ⊢
    have HS := Lib.hid (pl_start w ⟨(a : Int), (b : Int), (c : Int)⟩)
    simp only at HS
    clear hg
    go_enter Try.func12, Try.ntmps12
    go_wp2_with (first
      | (go_at_call 32; refine (HG.out _).mono ?_; rintro e V ⟨rfl, hk⟩; obtain ⟨b1, b2, b3⟩ := HS.out V hk; have y0 := b1.c0; have y1 := b1.c1; have y2 := b1.c2; have q0 := b2.c0; have q1 := b2.c1; have r0 := b2.f0; have r1 := b2.f1; have HB := Lib.hid (And.intro b1 (And.intro b2 b3)); clear b1 b2 b3 hk)
      | (go_at_call 33; refine (HK.out _).mono ?_; rintro e V2 ⟨rfl, rfl⟩))
    have e1 := HKX.out.1
    have e2 := HKX.out.2
    have hx := HB.out.2.1.set K X
    rw [e1, e2] at hx
    refine bodyPost_ret (results_pair_tmp rfl _ _ (w.heap.size + 1) _ _ rfl hx) rfl ?_
    exact ⟨rfl, (HB.out.2.2.setCell (p := ⟨w.heap.size + 1, 0, none⟩) (by simp) _).setCell (p := ⟨w.heap.size + 1, 1, none⟩) (by simp) _⟩
  · rw [if_neg hg]
    have HG := Lib.hid fun W => plCan x W
    rw [decide_eq_false hg] at HG
    obtain ⟨ch, tier, slot⟩ := x
    unfold plaV at HG ⊢
    simp only at HG ⊢
    have HS := Lib.hid (pl_start w ⟨ch, tier, slot⟩)
    simp only at HS
    clear hg
    go_enter Try.func12, Try.ntmps12
    go_wp2_with (go_at_call 32; refine (HG.out _).mono ?_; rintro e V ⟨rfl, hk⟩; obtain ⟨b1, b2, b3⟩ := HS.out V hk; have q0 := b2.c0; have q1 := b2.c1; have r0 := b2.f0; have r1 := b2.f1; have HB := Lib.hid (And.intro b1 (And.intro b2 b3)); clear b1 b2 b3 hk)
    refine bodyPost_ret (results_pair_tmp rfl _ _ (w.heap.size + 1) 0 0 rfl (HB.out.2.1.set 0 0)) rfl ?_
    exact ⟨rfl, (HB.out.2.2.setCell (p := ⟨w.heap.size + 1, 0, none⟩) (by simp) _).setCell (p := ⟨w.heap.size + 1, 1, none⟩) (by simp) _⟩

theorem pl_start2 (w : World) (t s : Int) (K X : Nat) : BoxP (w.heap.size + 1) K X ((w.alloc (.cells #[.int .i64 t, .int .i64 s] 45)).alloc (.cells #[.int .u64 (K : Int), .int .u64 (X : Int)] 50)) ∧ KeptIn (· < w.heap.size) w ((w.alloc (.cells #[.int .i64 t, .int .i64 s] 45)).alloc (.cells #[.int .u64 (K : Int), .int .u64 (X : Int)] 50)) := by
  obtain ⟨W1, hW1⟩ : ∃ W1, w.alloc (.cells #[.int .i64 t, .int .i64 s] 45) = W1 := ⟨_, rfl⟩
  have hk1 : KeptIn (· < w.heap.size) w W1 := by rw [← hW1]; exact (KeptIn.refl _ w).alloc (fun _ h => h) _
  have hs : W1.heap.size = w.heap.size + 1 := by rw [← hW1]; simp
  rw [hW1]
  have h2 := BoxP.new W1 K X
  rw [hs] at h2
  exact ⟨h2, hk1.go ((KeptIn.refl _ W1).alloc (fun _ h => h) _)⟩

/-- What the document's pair is. -/
theorem r14Pair (x : Pla) (hg : GoodP x) (w : World) : Calls Try.prog 15 #[.int .i64 x.ch, spotV x.tier x.slot] w fun e w' => e = .returned (pairV (keyP x, valP x)) ∧ KeptIn (· < w.heap.size) w w' := by
  obtain ⟨a, b, c, hv, ha1, ha, hb, hc⟩ := goodP_nats hg
  subst hv
  obtain ⟨hk1, hx1⟩ := pla_num a b c
  obtain ⟨K, hK⟩ : ∃ K, keyP ⟨(a : Int), (b : Int), (c : Int)⟩ = K := ⟨_, rfl⟩
  obtain ⟨X, hX⟩ : ∃ X, valP ⟨(a : Int), (b : Int), (c : Int)⟩ = X := ⟨_, rfl⟩
  rw [hK] at hk1 ⊢
  rw [hX, Int.mul_comm] at hx1
  rw [hX]
  have HKX := Lib.hid (And.intro hk1 hx1)
  clear hk1 hx1 hK hX
  unfold spotV
  simp only
  have HS := Lib.hid (pl_start2 w (b : Int) (c : Int) K X)
  clear hg
  go_enter Try.func15, Try.ntmps15
  go_wp2_with fail
  have e1 := HKX.out.1
  have e2 := HKX.out.2
  obtain ⟨hx, hk9⟩ := HS.out
  rw [e1, e2] at hx hk9
  exact bodyPost_ret (results_pair rfl _ _ (w.heap.size + 1) _ _ rfl hx) rfl ⟨rfl, hk9⟩

end Go.Proofs.Ytdbanlifneomgaa
