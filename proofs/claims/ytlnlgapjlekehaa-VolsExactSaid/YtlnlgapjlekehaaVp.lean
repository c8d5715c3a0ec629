/- Volumes: the pair of a volume. -/
import Derived.Test.YtlnlgapjlekehaaVo
import Derived.Test.YtlnlgapjlekehaaPg
set_option linter.unusedVariables false
namespace Go.Proofs.Ytlnlgapjlekehaa
open Go.RowKit

def keyV (v : Vol) : Nat := 4294967296 + v.id.toNat
def valV (v : Vol) : Nat := v.root.toNat + v.size.toNat * 65536 + v.frm.toNat * 1099511627776 + (if v.pin then 4294967296 else 0)
/-- A pair, boxed. -/
def BoxP (x k v : Nat) (W : World) : Prop := W.heap[x]? = some (.cells #[.int .u64 (k : Int), .int .u64 (v : Int)] 38 (0, 0))
section
variable {x k v : Nat} {W W' : World}
theorem BoxP.c0 (h : BoxP x k v W) : W.cell? ⟨x, 0, none⟩ = some (.int .u64 (k : Int)) := by simp [World.cell?, show W.heap[x]? = _ from h]
theorem BoxP.c1 (h : BoxP x k v W) : W.cell? ⟨x, 1, none⟩ = some (.int .u64 (v : Int)) := by simp [World.cell?, show W.heap[x]? = _ from h]
theorem BoxP.f0 (h : BoxP x k v W) : W.frozen? ⟨x, 0, none⟩ = false := by simp [World.frozen?, show W.heap[x]? = _ from h]
theorem BoxP.f1 (h : BoxP x k v W) : W.frozen? ⟨x, 1, none⟩ = false := by simp [World.frozen?, show W.heap[x]? = _ from h]
theorem BoxP.lt (h : BoxP x k v W) : x < W.heap.size := (Array.getElem?_eq_some_iff.1 h).1
theorem BoxP.kept {X : Nat → Prop} (h : BoxP x k v W) (hk : KeptIn X W W') (hX : X x) : BoxP x k v W' := (hk.block x hX).trans h
theorem BoxP.new (w : World) (k v : Nat) : BoxP w.heap.size k v (w.alloc (.cells #[.int .u64 (k : Int), .int .u64 (v : Int)] 38)) := heap_alloc_new w _
theorem BoxP.set (h : BoxP x k v W) (k' v' : Nat) : BoxP x k' v' ((W.setCell ⟨x, 0, none⟩ (.int .u64 (k' : Int))).setCell ⟨x, 1, none⟩ (.int .u64 (v' : Int))) := by
  have h1 : (W.setCell ⟨x, 0, none⟩ (.int .u64 (k' : Int))).heap[x]? = _ := heap_setCell_same _ _ _ _ _ _ h
  have h2 : ((W.setCell ⟨x, 0, none⟩ (.int .u64 (k' : Int))).setCell ⟨x, 1, none⟩ (.int .u64 (v' : Int))).heap[x]? = _ := heap_setCell_same _ _ _ _ _ _ h1
  exact h2.trans rfl
end
theorem results_pair_tmp {fn : Func} {p u : Tmp} (h : fn.results = #[.cell p 38, .tmp u]) (tmps : Array Value) (w : World) (x k v : Nat)
    (hp : tmps.getD p undef = .pointer (some ⟨x, 0, none⟩)) (hb : BoxP x k v w) : (results fn tmps).run Try.prog w = .ok (.tuple #[pairV (k, v), tmps.getD u undef]) w := by
  have hr := run_loadVar_row (P := Try.prog) w x 38 38 _ _ _ hb Try.underlying38 rfl (by kernel_rfl)
  rw [results_cell_tmp h, hp]
  simp [asAddr, hr, pairV]
theorem results_pair {fn : Func} {p : Tmp} (h : fn.results = #[.cell p 38]) (tmps : Array Value) (w : World) (x k v : Nat)
    (hp : tmps.getD p undef = .pointer (some ⟨x, 0, none⟩)) (hb : BoxP x k v w) : (results fn tmps).run Try.prog w = .ok (pairV (k, v)) w := by
  have hr := run_loadVar_row (P := Try.prog) w x 38 38 _ _ _ hb Try.underlying38 rfl (by kernel_rfl)
  have hp' : tmps[p]?.getD undef = .pointer (some ⟨x, 0, none⟩) := by simpa using hp
  simp [results, h, hp', asAddr, hr, pairV]

/-- A volume, boxed. -/
def BoxV (x : Nat) (v : Vol) (W : World) : Prop := W.heap[x]? = some (.cells #[.int .i64 v.id, .int .i64 v.size, .int .i64 v.root, .bool v.pin, .int .i64 v.frm] 60 (0, 0))
section
variable {x : Nat} {v : Vol} {W W' : World}
theorem BoxV.c0 (h : BoxV x v W) : W.cell? ⟨x, 0, none⟩ = some (.int .i64 v.id) := by simp [World.cell?, show W.heap[x]? = _ from h]
theorem BoxV.c1 (h : BoxV x v W) : W.cell? ⟨x, 1, none⟩ = some (.int .i64 v.size) := by simp [World.cell?, show W.heap[x]? = _ from h]
theorem BoxV.c2 (h : BoxV x v W) : W.cell? ⟨x, 2, none⟩ = some (.int .i64 v.root) := by simp [World.cell?, show W.heap[x]? = _ from h]
theorem BoxV.c3 (h : BoxV x v W) : W.cell? ⟨x, 3, none⟩ = some (.bool v.pin) := by simp [World.cell?, show W.heap[x]? = _ from h]
theorem BoxV.c4 (h : BoxV x v W) : W.cell? ⟨x, 4, none⟩ = some (.int .i64 v.frm) := by simp [World.cell?, show W.heap[x]? = _ from h]
theorem BoxV.fr (h : BoxV x v W) (i : Nat) : W.frozen? ⟨x, i, none⟩ = false := by simp [World.frozen?, show W.heap[x]? = _ from h]
theorem BoxV.lt (h : BoxV x v W) : x < W.heap.size := (Array.getElem?_eq_some_iff.1 h).1
theorem BoxV.kept {X : Nat → Prop} (h : BoxV x v W) (hk : KeptIn X W W') (hX : X x) : BoxV x v W' := (hk.block x hX).trans h
theorem BoxV.new (w : World) (v : Vol) : BoxV w.heap.size v (w.alloc (.cells #[.int .i64 v.id, .int .i64 v.size, .int .i64 v.root, .bool v.pin, .int .i64 v.frm] 60)) := heap_alloc_new w _
theorem BoxV.set (h : BoxV x v W) (u : Vol) : BoxV x u (((((W.setCell ⟨x, 0, none⟩ (.int .i64 u.id)).setCell ⟨x, 1, none⟩ (.int .i64 u.size)).setCell ⟨x, 2, none⟩ (.int .i64 u.root)).setCell ⟨x, 3, none⟩ (.bool u.pin)).setCell ⟨x, 4, none⟩ (.int .i64 u.frm)) := by
  have h1 : (W.setCell ⟨x, 0, none⟩ (.int .i64 u.id)).heap[x]? = _ := heap_setCell_same _ _ _ _ _ _ h
  have h2 : ((W.setCell ⟨x, 0, none⟩ (.int .i64 u.id)).setCell ⟨x, 1, none⟩ (.int .i64 u.size)).heap[x]? = _ := heap_setCell_same _ _ _ _ _ _ h1
  have h3 : (((W.setCell ⟨x, 0, none⟩ (.int .i64 u.id)).setCell ⟨x, 1, none⟩ (.int .i64 u.size)).setCell ⟨x, 2, none⟩ (.int .i64 u.root)).heap[x]? = _ := heap_setCell_same _ _ _ _ _ _ h2
  have h4 : ((((W.setCell ⟨x, 0, none⟩ (.int .i64 u.id)).setCell ⟨x, 1, none⟩ (.int .i64 u.size)).setCell ⟨x, 2, none⟩ (.int .i64 u.root)).setCell ⟨x, 3, none⟩ (.bool u.pin)).heap[x]? = _ := heap_setCell_same _ _ _ _ _ _ h3
  have h5 : (((((W.setCell ⟨x, 0, none⟩ (.int .i64 u.id)).setCell ⟨x, 1, none⟩ (.int .i64 u.size)).setCell ⟨x, 2, none⟩ (.int .i64 u.root)).setCell ⟨x, 3, none⟩ (.bool u.pin)).setCell ⟨x, 4, none⟩ (.int .i64 u.frm)).heap[x]? = _ := heap_setCell_same _ _ _ _ _ _ h4
  exact h5.trans rfl
end
theorem results_vol_tmp {fn : Func} {p u : Tmp} (h : fn.results = #[.cell p 60, .tmp u]) (tmps : Array Value) (w : World) (x : Nat) (v : Vol)
    (hp : tmps.getD p undef = .pointer (some ⟨x, 0, none⟩)) (hb : BoxV x v w) : (results fn tmps).run Try.prog w = .ok (.tuple #[volV v, tmps.getD u undef]) w := by
  have hr := run_loadVar_row (P := Try.prog) w x 60 60 _ _ _ hb Try.underlying60 rfl (by kernel_rfl)
  rw [results_cell_tmp h, hp]
  simp [asAddr, hr, volV]

theorem vsKey (id : Int) (w : World) : Calls Try.prog 43 #[.int .i64 id] w fun e w' => e = .returned (.int .u64 (IntKind.u64.wrap (4294967296 + id))) ∧ w' = w := by
  go_enter Try.func43, Try.ntmps43
  go_wp2_with fail
  go_ret
  refine ⟨?_, rfl⟩
  have : IntKind.u64.wrap (4294967296 + IntKind.u64.wrap id) = IntKind.u64.wrap (4294967296 + id) := by
    simp only [IntKind.wrap_u64]
    omega
  exact congrArg (fun x => Ending.returned (Value.int .u64 x)) this

/-- A good volume's parts are numbers. -/
theorem good_nats {v : Vol} (h : GoodV v) : ∃ a b c d : Nat, v = ⟨(a : Int), (b : Int), (c : Int), v.pin, (d : Int)⟩ ∧ 1 ≤ a ∧ a ≤ 16 ∧ b ≤ 64 ∧ c ≤ 511 ∧ d ≤ 16 := by
  obtain ⟨id, size, root, pin, frm⟩ := v
  obtain ⟨g1, g2, g3, g4, g5, g6, g7, g8⟩ := h
  simp only at g1 g2 g3 g4 g5 g6 g7 g8
  refine ⟨id.toNat, size.toNat, root.toNat, frm.toNat, ?_, by omega, by omega, by omega, by omega, by omega⟩
  rw [Int.toNat_of_nonneg (by omega), Int.toNat_of_nonneg g3, Int.toNat_of_nonneg g5, Int.toNat_of_nonneg g7]

def PairS (w : World) (v : Vol) (e : Ending) (w' : World) : Prop :=
  e = .returned (if GoodV v then .tuple #[pairV (keyV v, valV v), .int .i64 0] else .tuple #[pairV (0, 0), .int .i64 1]) ∧ KeptIn (· < w.heap.size) w w'

set_option maxHeartbeats 1000000 in
theorem pair_num (a b c d : Nat) (pin : Bool) : ((keyV ⟨(a : Int), (b : Int), (c : Int), pin, (d : Int)⟩ : Nat) : Int) = 4294967296 + (a : Int) ∧ ((valV ⟨(a : Int), (b : Int), (c : Int), pin, (d : Int)⟩ : Nat) : Int) = (c : Int) + (b : Int) * 65536 + (d : Int) * 1099511627776 + (if pin = true then 4294967296 else 0) := by
  refine ⟨by unfold keyV; simp only; omega, ?_⟩
  unfold valV
  cases pin with
  | true => simp only [if_true]; omega
  | false => simp only [Bool.false_eq_true, if_false]; omega

theorem vp_start (w : World) (v : Vol) : ∀ V, KeptIn (· < ((w.alloc (.cells #[.int .i64 v.id, .int .i64 v.size, .int .i64 v.root, .bool v.pin, .int .i64 v.frm] 60)).alloc (.cells #[.int .u64 0, .int .u64 0] 38)).heap.size) ((w.alloc (.cells #[.int .i64 v.id, .int .i64 v.size, .int .i64 v.root, .bool v.pin, .int .i64 v.frm] 60)).alloc (.cells #[.int .u64 0, .int .u64 0] 38)) V → BoxV w.heap.size v V ∧ BoxP (w.heap.size + 1) 0 0 V ∧ KeptIn (· < w.heap.size) w V := by
  intro V hk
  have h1 := BoxV.new w v
  obtain ⟨W1, hW1⟩ : ∃ W1, w.alloc (.cells #[.int .i64 v.id, .int .i64 v.size, .int .i64 v.root, .bool v.pin, .int .i64 v.frm] 60) = W1 := ⟨_, rfl⟩
  have hk1 : KeptIn (· < w.heap.size) w W1 := by rw [← hW1]; exact (KeptIn.refl _ w).alloc (fun _ h => h) _
  have hs : W1.heap.size = w.heap.size + 1 := by rw [← hW1]; simp
  rw [hW1] at h1 hk
  have h2 : BoxP W1.heap.size 0 0 (W1.alloc (.cells #[.int .u64 0, .int .u64 0] 38)) := BoxP.new W1 0 0
  have hk2 : KeptIn (· < W1.heap.size) W1 (W1.alloc (.cells #[.int .u64 0, .int .u64 0] 38)) := (KeptIn.refl _ W1).alloc (fun _ h => h) _
  rw [hs] at h2
  have hk3 := hk2.go hk
  exact ⟨h1.kept hk3 h1.lt, h2.kept hk h2.lt, hk1.go hk3⟩


set_option maxHeartbeats 1000000 in
theorem vsPair (v : Vol) (w : World) : Calls Try.prog 21 #[volV v] w (PairS w v) := by
  unfold PairS
  by_cases hg : GoodV v
  · rw [if_pos hg]
    obtain ⟨a, b, c, d, hv, ha1, ha, hb, hc, hd⟩ := good_nats hg
    obtain ⟨pin, hpin⟩ : ∃ pin, v.pin = pin := ⟨_, rfl⟩
    rw [hpin] at hv
    subst hv
    obtain ⟨hk1, hx1⟩ := pair_num a b c d pin
    obtain ⟨K, hK⟩ : ∃ K, keyV ⟨(a : Int), (b : Int), (c : Int), pin, (d : Int)⟩ = K := ⟨_, rfl⟩
    obtain ⟨X, hX⟩ : ∃ X, valV ⟨(a : Int), (b : Int), (c : Int), pin, (d : Int)⟩ = X := ⟨_, rfl⟩
    rw [hK] at hk1 ⊢
    rw [hX] at hx1 ⊢
    have HKX := Lib.hid (And.intro hk1 hx1)
    clear hk1 hx1 hK hX
    have HG := Lib.hid fun W => vsGood ⟨(a : Int), (b : Int), (c : Int), pin, (d : Int)⟩ W
    rw [decide_eq_true hg] at HG
    have HK := Lib.hid fun W => vsKey (a : Int) W
    unfold volV at HG ⊢
    simp only at HG ⊢
    have HS := Lib.hid (vp_start w ⟨(a : Int), (b : Int), (c : Int), pin, (d : Int)⟩)
    simp only at HS
    clear hg hpin
    go_enter Try.func21, Try.ntmps21
    cases pin with
    | true =>
      go_wp2_with (first
        | (go_at_call 22; refine (HG.out _).mono ?_; rintro e V ⟨rfl, hk⟩; obtain ⟨b1, b2, b3⟩ := HS.out V hk; have y0 := b1.c0; have y1 := b1.c1; have y2 := b1.c2; have y3 := b1.c3; have y4 := b1.c4; have q0 := b2.c0; have q1 := b2.c1; have r0 := b2.f0; have r1 := b2.f1; have HB := Lib.hid (And.intro b1 (And.intro b2 b3)); clear b1 b2 b3 hk)
        | (go_at_call 43; refine (HK.out _).mono ?_; rintro e V2 ⟨rfl, rfl⟩))
      have e1 := HKX.out.1
      have e2 : (X : Int) = (c : Int) + (b : Int) * 65536 + (d : Int) * 1099511627776 + 4294967296 := by simpa using HKX.out.2
      have hx := HB.out.2.1.set K X
      rw [e1, e2] at hx
      refine bodyPost_ret (results_pair_tmp rfl _ _ (w.heap.size + 1) _ _ rfl hx) rfl ?_
      exact ⟨rfl, (HB.out.2.2.setCell (p := ⟨w.heap.size + 1, 0, none⟩) (by simp) _).setCell (p := ⟨w.heap.size + 1, 1, none⟩) (by simp) _⟩
    | false =>
      go_wp2_with (first
        | (go_at_call 22; refine (HG.out _).mono ?_; rintro e V ⟨rfl, hk⟩; obtain ⟨b1, b2, b3⟩ := HS.out V hk; have y0 := b1.c0; have y1 := b1.c1; have y2 := b1.c2; have y3 := b1.c3; have y4 := b1.c4; have q0 := b2.c0; have q1 := b2.c1; have r0 := b2.f0; have r1 := b2.f1; have HB := Lib.hid (And.intro b1 (And.intro b2 b3)); clear b1 b2 b3 hk)
        | (go_at_call 43; refine (HK.out _).mono ?_; rintro e V2 ⟨rfl, rfl⟩))
      have e1 := HKX.out.1
      have e2 : (X : Int) = (c : Int) + (b : Int) * 65536 + (d : Int) * 1099511627776 := by simpa using HKX.out.2
      have hx := HB.out.2.1.set K X
      rw [e1, e2] at hx
      refine bodyPost_ret (results_pair_tmp rfl _ _ (w.heap.size + 1) _ _ rfl hx) rfl ?_
      exact ⟨rfl, (HB.out.2.2.setCell (p := ⟨w.heap.size + 1, 0, none⟩) (by simp) _).setCell (p := ⟨w.heap.size + 1, 1, none⟩) (by simp) _⟩
  · rw [if_neg hg]
    have HG := Lib.hid fun W => vsGood v W
    rw [decide_eq_false hg] at HG
    obtain ⟨id, size, root, pin, frm⟩ := v
    unfold volV at HG ⊢
    simp only at HG ⊢
    have HS := Lib.hid (vp_start w ⟨id, size, root, pin, frm⟩)
    simp only at HS
    clear hg
    go_enter Try.func21, Try.ntmps21
    go_wp2_with (go_at_call 22; refine (HG.out _).mono ?_; rintro e V ⟨rfl, hk⟩; obtain ⟨b1, b2, b3⟩ := HS.out V hk; have q0 := b2.c0; have q1 := b2.c1; have r0 := b2.f0; have r1 := b2.f1; have HB := Lib.hid (And.intro b1 (And.intro b2 b3)); clear b1 b2 b3 hk)
    refine bodyPost_ret (results_pair_tmp rfl _ _ (w.heap.size + 1) 0 0 rfl (HB.out.2.1.set 0 0)) rfl ?_
    exact ⟨rfl, (HB.out.2.2.setCell (p := ⟨w.heap.size + 1, 0, none⟩) (by simp) _).setCell (p := ⟨w.heap.size + 1, 1, none⟩) (by simp) _⟩

theorem vp_start2 (w : World) (v : Vol) (K X : Nat) : BoxP (w.heap.size + 1) K X ((w.alloc (.cells #[.int .i64 v.id, .int .i64 v.size, .int .i64 v.root, .bool v.pin, .int .i64 v.frm] 60)).alloc (.cells #[.int .u64 (K : Int), .int .u64 (X : Int)] 38)) ∧ KeptIn (· < w.heap.size) w ((w.alloc (.cells #[.int .i64 v.id, .int .i64 v.size, .int .i64 v.root, .bool v.pin, .int .i64 v.frm] 60)).alloc (.cells #[.int .u64 (K : Int), .int .u64 (X : Int)] 38)) := by
  obtain ⟨W1, hW1⟩ : ∃ W1, w.alloc (.cells #[.int .i64 v.id, .int .i64 v.size, .int .i64 v.root, .bool v.pin, .int .i64 v.frm] 60) = W1 := ⟨_, rfl⟩
  have hk1 : KeptIn (· < w.heap.size) w W1 := by rw [← hW1]; exact (KeptIn.refl _ w).alloc (fun _ h => h) _
  have hs : W1.heap.size = w.heap.size + 1 := by rw [← hW1]; simp
  rw [hW1]
  have h2 := BoxP.new W1 K X
  rw [hs] at h2
  exact ⟨h2, hk1.go ((KeptIn.refl _ W1).alloc (fun _ h => h) _)⟩

/-- What the document's pair is. -/
theorem r11Pair (v : Vol) (hg : GoodV v) (w : World) : Calls Try.prog 25 #[volV v] w fun e w' => e = .returned (pairV (keyV v, valV v)) ∧ KeptIn (· < w.heap.size) w w' := by
  obtain ⟨a, b, c, d, hv, ha1, ha, hb, hc, hd⟩ := good_nats hg
  obtain ⟨pin, hpin⟩ : ∃ pin, v.pin = pin := ⟨_, rfl⟩
  rw [hpin] at hv
  subst hv
  obtain ⟨hk1, hx1⟩ := pair_num a b c d pin
  obtain ⟨K, hK⟩ : ∃ K, keyV ⟨(a : Int), (b : Int), (c : Int), pin, (d : Int)⟩ = K := ⟨_, rfl⟩
  obtain ⟨X, hX⟩ : ∃ X, valV ⟨(a : Int), (b : Int), (c : Int), pin, (d : Int)⟩ = X := ⟨_, rfl⟩
  rw [hK] at hk1 ⊢
  rw [hX] at hx1 ⊢
  have HKX := Lib.hid (And.intro hk1 hx1)
  clear hk1 hx1 hK hX
  unfold volV
  simp only
  have HS := Lib.hid (vp_start2 w ⟨(a : Int), (b : Int), (c : Int), pin, (d : Int)⟩ K X)
  clear hg hpin
  go_enter Try.func25, Try.ntmps25
  cases pin with
  | true =>
    go_wp2_with fail
    have e1 := HKX.out.1
    have e2 : (X : Int) = (c : Int) + (b : Int) * 65536 + (d : Int) * 1099511627776 + 4294967296 := by simpa using HKX.out.2
    obtain ⟨hx, hk9⟩ := HS.out
    rw [e1, e2] at hx hk9
    exact bodyPost_ret (results_pair rfl _ _ (w.heap.size + 1) _ _ rfl hx) rfl ⟨rfl, hk9⟩
  | false =>
    go_wp2_with fail
    have e1 := HKX.out.1
    have e2 : (X : Int) = (c : Int) + (b : Int) * 65536 + (d : Int) * 1099511627776 := by simpa using HKX.out.2
    obtain ⟨hx, hk9⟩ := HS.out
    rw [e1, e2] at hx hk9
    exact bodyPost_ret (results_pair rfl _ _ (w.heap.size + 1) _ _ rfl hx) rfl ⟨rfl, hk9⟩

end Go.Proofs.Ytlnlgapjlekehaa
