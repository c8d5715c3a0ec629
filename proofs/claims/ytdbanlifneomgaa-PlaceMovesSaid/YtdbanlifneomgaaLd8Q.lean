import Derived.Test.YtdbanlifneomgaaP5
/- Package tree's leads: toRoot, toChild, fits. -/
set_option linter.unusedVariables false
namespace Go.Proofs.Ytdbanlifneomgaa
open Go.RowKit

/-- A lead as a value. -/
def leadV (page : Nat) (root : Bool) (lv : Int) (low high : Nat) : Value := .agg #[.int .i64 (page : Int), .bool root, .int .i64 lv, .int .u64 (low : Int), .int .u64 (high : Int)]
/-- A lead, boxed. -/
def BoxD (x page : Nat) (root : Bool) (lv : Int) (low high : Nat) (W : World) : Prop := W.heap[x]? = some (.cells #[.int .i64 (page : Int), .bool root, .int .i64 lv, .int .u64 (low : Int), .int .u64 (high : Int)] 118 (0, 0))

theorem results_lead {fn : Func} {p : Tmp} (h : fn.results = #[.cell p 118]) (tmps : Array Value) (w : World) (x page : Nat) (root : Bool) (lv : Int) (low high : Nat)
    (hp : tmps.getD p undef = .pointer (some ⟨x, 0, none⟩)) (hb : BoxD x page root lv low high w) : (results fn tmps).run Try.prog w = .ok (leadV page root lv low high) w := by
  have c0 : w.cell? ⟨x, 0, none⟩ = some (.int .i64 (page : Int)) := by simp [World.cell?, show w.heap[x]? = _ from hb]
  have c1 : w.cell? ⟨x, 1, none⟩ = some (.bool root) := by simp [World.cell?, show w.heap[x]? = _ from hb]
  have c2 : w.cell? ⟨x, 2, none⟩ = some (.int .i64 lv) := by simp [World.cell?, show w.heap[x]? = _ from hb]
  have c3 : w.cell? ⟨x, 3, none⟩ = some (.int .u64 (low : Int)) := by simp [World.cell?, show w.heap[x]? = _ from hb]
  have c4 : w.cell? ⟨x, 4, none⟩ = some (.int .u64 (high : Int)) := by simp [World.cell?, show w.heap[x]? = _ from hb]
  have hp' : tmps[p]?.getD undef = .pointer (some ⟨x, 0, none⟩) := by simpa using hp
  simp [results, h, hp', asAddr, c0, c1, c2, c3, c4, leadV, go_sem]

theorem trToRoot (page : Nat) (w : World) :
    Calls Try.prog 42 #[.int .i64 (page : Int)] w fun e w' => e = .returned (leadV page true 0 0 18446744073709551615) ∧ KeptIn (· < w.heap.size) w w' := by
  go_enter Try.func42, Try.ntmps42
  go_wp2_with fail
  refine bodyPost_ret (results_lead rfl _ _ w.heap.size page true 0 0 18446744073709551615 rfl (heap_alloc_new _ _)) rfl ?_
  exact ⟨rfl, (KeptIn.refl _ w).alloc (fun _ h => h) _⟩

theorem to_nums (i n : Nat) (hi : i < n) (hn : n ≤ 1000) : wrap64 ((i : Int) + 1) = ((i + 1 : Nat) : Int) ∧ IntKind.i64.wrap ((i : Int) + 1) = ((i + 1 : Nat) : Int) ∧ (0 : Int) ≤ (i : Int) ∧ (i : Int) < (n : Int) := by
  refine ⟨by unfold wrap64; omega, by rw [IntKind.wrap_i64]; omega, by omega, by omega⟩

/-- Where a lead's keys end. -/
def highOf (ps : Pairs) (i high : Nat) : Nat := if i + 1 < ps.length then keyAt ps (i + 1) - 1 else high

theorem to_last (i n : Nat) (h : i + 1 < n) : (i : Int) + 1 < (n : Int) ∧ ((i + 1 : Nat) : Int) < (n : Int) ∧ (0 : Int) ≤ ((i + 1 : Nat) : Int) := by omega
theorem to_last' (i j n : Nat) (hj : i + 1 = j) (h : ¬ i + 1 < n) : ¬ ((j : Int) < (n : Int)) ∧ (n : Int) ≤ (j : Int) ∧ ¬ j < n := by omega
theorem to_lv (lv : Nat) (h : 1 ≤ lv ∧ lv ≤ 7) : ((lv : Int) - 1) = ((lv - 1 : Nat) : Int) ∧ wrap64 ((lv : Int) - 1) = ((lv - 1 : Nat) : Int) ∧ IntKind.i64.wrap ((lv : Int) - 1) = ((lv - 1 : Nat) : Int) := by
  refine ⟨by omega, by unfold wrap64; omega, by rw [IntKind.wrap_i64]; omega⟩
theorem to_page (v : Nat) (h : v ≤ 511) : IntKind.i64.wrap (v : Int) = (v : Int) ∧ wrap64 (v : Int) = (v : Int) := ⟨by rw [IntKind.wrap_i64]; omega, by unfold wrap64; omega⟩
theorem to_sub (k : Nat) (h : 1 ≤ k) (h2 : k < 18446744073709551616) : IntKind.u64.wrap ((k : Int) - 1) = ((k - 1 : Nat) : Int) := by
  rw [IntKind.wrap_u64]; omega

section
variable {x page : Nat} {root : Bool} {lv : Int} {low high : Nat} {W W' : World}
theorem BoxD.c0 (h : BoxD x page root lv low high W) : W.cell? ⟨x, 0, none⟩ = some (.int .i64 (page : Int)) := by simp [World.cell?, show W.heap[x]? = _ from h]
theorem BoxD.c1 (h : BoxD x page root lv low high W) : W.cell? ⟨x, 1, none⟩ = some (.bool root) := by simp [World.cell?, show W.heap[x]? = _ from h]
theorem BoxD.c2 (h : BoxD x page root lv low high W) : W.cell? ⟨x, 2, none⟩ = some (.int .i64 lv) := by simp [World.cell?, show W.heap[x]? = _ from h]
theorem BoxD.c3 (h : BoxD x page root lv low high W) : W.cell? ⟨x, 3, none⟩ = some (.int .u64 (low : Int)) := by simp [World.cell?, show W.heap[x]? = _ from h]
theorem BoxD.c4 (h : BoxD x page root lv low high W) : W.cell? ⟨x, 4, none⟩ = some (.int .u64 (high : Int)) := by simp [World.cell?, show W.heap[x]? = _ from h]
theorem BoxD.f0 (h : BoxD x page root lv low high W) : W.frozen? ⟨x, 0, none⟩ = false := by simp [World.frozen?, show W.heap[x]? = _ from h]
theorem BoxD.f1 (h : BoxD x page root lv low high W) : W.frozen? ⟨x, 1, none⟩ = false := by simp [World.frozen?, show W.heap[x]? = _ from h]
theorem BoxD.f2 (h : BoxD x page root lv low high W) : W.frozen? ⟨x, 2, none⟩ = false := by simp [World.frozen?, show W.heap[x]? = _ from h]
theorem BoxD.f3 (h : BoxD x page root lv low high W) : W.frozen? ⟨x, 3, none⟩ = false := by simp [World.frozen?, show W.heap[x]? = _ from h]
theorem BoxD.f4 (h : BoxD x page root lv low high W) : W.frozen? ⟨x, 4, none⟩ = false := by simp [World.frozen?, show W.heap[x]? = _ from h]
theorem BoxD.lt (h : BoxD x page root lv low high W) : x < W.heap.size := (Array.getElem?_eq_some_iff.1 h).1
theorem BoxD.kept {X : Nat → Prop} (h : BoxD x page root lv low high W) (hk : KeptIn X W W') (hX : X x) : BoxD x page root lv low high W' := (hk.block x hX).trans h
theorem BoxD.new (w : World) (page : Nat) (root : Bool) (lv : Int) (low high : Nat) : BoxD w.heap.size page root lv low high (w.alloc (.cells #[.int .i64 (page : Int), .bool root, .int .i64 lv, .int .u64 (low : Int), .int .u64 (high : Int)] 118)) := heap_alloc_new w _
theorem BoxD.set {page' : Nat} {root' : Bool} {lv' : Int} {low' high' : Nat} (h : BoxD x page root lv low high W) :
    BoxD x page' root' lv' low' high' (((((W.setCell ⟨x, 0, none⟩ (.int .i64 (page' : Int))).setCell ⟨x, 1, none⟩ (.bool root')).setCell ⟨x, 2, none⟩ (.int .i64 lv')).setCell ⟨x, 3, none⟩ (.int .u64 (low' : Int))).setCell ⟨x, 4, none⟩ (.int .u64 (high' : Int))) := by
  have h1 : (W.setCell ⟨x, 0, none⟩ (.int .i64 (page' : Int))).heap[x]? = _ := heap_setCell_same _ _ _ _ _ _ h
  have h2 : ((W.setCell ⟨x, 0, none⟩ (.int .i64 (page' : Int))).setCell ⟨x, 1, none⟩ (.bool root')).heap[x]? = _ := heap_setCell_same _ _ _ _ _ _ h1
  have h3 : (((W.setCell ⟨x, 0, none⟩ (.int .i64 (page' : Int))).setCell ⟨x, 1, none⟩ (.bool root')).setCell ⟨x, 2, none⟩ (.int .i64 lv')).heap[x]? = _ := heap_setCell_same _ _ _ _ _ _ h2
  have h4 : ((((W.setCell ⟨x, 0, none⟩ (.int .i64 (page' : Int))).setCell ⟨x, 1, none⟩ (.bool root')).setCell ⟨x, 2, none⟩ (.int .i64 lv')).setCell ⟨x, 3, none⟩ (.int .u64 (low' : Int))).heap[x]? = _ := heap_setCell_same _ _ _ _ _ _ h3
  have h5 : (((((W.setCell ⟨x, 0, none⟩ (.int .i64 (page' : Int))).setCell ⟨x, 1, none⟩ (.bool root')).setCell ⟨x, 2, none⟩ (.int .i64 lv')).setCell ⟨x, 3, none⟩ (.int .u64 (low' : Int))).setCell ⟨x, 4, none⟩ (.int .u64 (high' : Int))).heap[x]? = _ := heap_setCell_same _ _ _ _ _ _ h4
  exact h5.trans rfl
end

set_option maxRecDepth 100000 in
theorem trToChild (lv : Nat) (a : Option Addr) (cap : Nat) (ps : Pairs) (i high : Nat) (w : World) (h : IsPs w a ps) (hr : rises ps = true) (hi : i < ps.length) (hl : ps.length ≤ 1000) (hlv : 1 ≤ lv ∧ lv ≤ 7) (hv : valAt ps i ≤ 511) :
    Calls Try.prog 51 #[leafV (lv : Int) a ps.length cap, .int .i64 (i : Int), .int .u64 (high : Int)] w fun e w' => e = .returned (leadV (valAt ps i) false ((lv : Int) - 1) (keyAt ps i) (highOf ps i high)) ∧ KeptIn (· < w.heap.size) w w' := by
  obtain ⟨b, off, rfl, hb, hc⟩ := h.cells (Nat.lt_of_le_of_lt (Nat.zero_le _) hi)
  obtain ⟨e1, e2⟩ := hc i hi
  have HC := Lib.hid hc
  have HF := Lib.hid h.fits
  have HR := Lib.hid hr
  obtain ⟨n, hn⟩ : ∃ n, ps.length = n := ⟨_, rfl⟩
  have HN := Lib.hid hn
  obtain ⟨hh, hhe⟩ : ∃ hh, highOf ps i high = hh := ⟨_, rfl⟩
  have HHE := Lib.hid hhe
  obtain ⟨k, hk⟩ : ∃ k, keyAt ps i = k := ⟨_, rfl⟩
  obtain ⟨v, hve⟩ : ∃ v, valAt ps i = v := ⟨_, rfl⟩
  rw [hn] at hi hl
  rw [hk] at e1
  rw [hve] at e2 hv
  rw [hn, hhe, hk, hve]
  obtain ⟨n1, n2, n3, n4⟩ := to_nums i n hi hl
  have HI := Lib.hid hi
  obtain ⟨l1, l2, l3⟩ := to_lv lv hlv
  obtain ⟨v1, v2⟩ := to_page v hv
  rw [l1]
  obtain ⟨l, hle⟩ : ∃ l, lv - 1 = l := ⟨_, rfl⟩
  rw [hle] at l2 l3 ⊢
  obtain ⟨W, hW⟩ : ∃ W, (w.alloc (.cells #[.int .i64 (lv : Int), .slice (some ⟨b, off, none⟩) n cap] 27)).alloc (.cells #[.int .i64 0, .bool false, .int .i64 0, .int .u64 0, .int .u64 0] 118) = W := ⟨_, rfl⟩
  have hkW : KeptIn (· < w.heap.size) w W := by rw [← hW]; exact ((KeptIn.refl _ w).alloc (fun _ h => h) _).alloc (fun _ h => h) _
  obtain ⟨x, hx⟩ : ∃ x, w.heap.size = x := ⟨_, rfl⟩
  have hbl : BoxL x (lv : Int) (some ⟨b, off, none⟩) n cap W := by
    rw [← hW, ← hx]
    exact (BoxL.new w (lv : Int) (some ⟨b, off, none⟩) n cap).kept ((KeptIn.refl _ _).alloc (fun _ h => h) _) (by simp)
  have hbd : BoxD (x + 1) 0 false 0 0 0 W := by
    rw [← hW, ← hx, show w.heap.size + 1 = (w.alloc (.cells #[.int .i64 (lv : Int), .slice (some ⟨b, off, none⟩) n cap] 27)).heap.size by simp]
    exact heap_alloc_new _ _
  have HWB := Lib.hid (And.intro hkW (And.intro hbl hbd))
  have q0 := hbl.c0
  have q1 := hbl.c1
  have p0 := hbd.c0
  have p1 := hbd.c1
  have p2 := hbd.c2
  have p3 := hbd.c3
  have p4 := hbd.c4
  have f0 := hbd.f0
  have f1 := hbd.f1
  have f2 := hbd.f2
  have f3 := hbd.f3
  have f4 := hbd.f4
  have e1 := (World.cell?_of_block (a := ⟨b, off + i * 2, none⟩) (hkW.block b hb)).trans e1
  have e2 := (World.cell?_of_block (a := ⟨b, off + i * 2 + 1, none⟩) (hkW.block b hb)).trans e2
  have HB := Lib.hid hb
  unfold leafV
  clear hkW hbl hbd hb
  clear hc hr hn hhe hk hve h hi hl hv l1 hlv hle
  by_cases hlast : i + 1 < n
  · obtain ⟨e3, _⟩ := HC.out (i + 1) (by rw [HN.out]; exact hlast)
    replace e3 := (World.cell?_of_block (a := ⟨b, off + (i + 1) * 2, none⟩) (HWB.out.1.block b HB.out)).trans e3
    have f3 := (HF.out.at (i := i + 1) (by rw [HN.out]; exact hlast)).1
    have f4 : 1 ≤ keyAt ps (i + 1) := Nat.lt_of_le_of_lt (Nat.zero_le _) (rises_lt HR.out (Nat.lt_succ_self i) (by rw [HN.out]; exact hlast))
    obtain ⟨t1, t2, t3⟩ := to_last i n hlast
    have u1 := to_sub _ f4 f3
    have hhv : keyAt ps (i + 1) - 1 = hh := by rw [← HHE.out, highOf, HN.out, if_pos hlast]
    rw [hhv] at u1
    obtain ⟨k2, hk2⟩ : ∃ k2, keyAt ps (i + 1) = k2 := ⟨_, rfl⟩
    obtain ⟨j, hj⟩ : ∃ j, i + 1 = j := ⟨_, rfl⟩
    rw [hk2] at e3 u1
    rw [hj] at e3 t2 t3 n1 n2
    clear hk2 hhv f3 f4 hj hlast
    go_enter Try.func51, Try.ntmps51
    go_wp2_with fail
    go_region
    have hset := HWB.out.2.2.set (page' := v) (root' := false) (lv' := (l : Int)) (low' := k) (high' := hh)
    have hkF := ((((HWB.out.1.setCell (p := ⟨x + 1, 0, none⟩) (by rw [hx]; simp) (.int .i64 (v : Int))).setCell (p := ⟨x + 1, 1, none⟩) (by rw [hx]; simp) (.bool false)).setCell (p := ⟨x + 1, 2, none⟩) (by rw [hx]; simp) (.int .i64 (l : Int))).setCell (p := ⟨x + 1, 3, none⟩) (by rw [hx]; simp) (.int .u64 (k : Int))).setCell (p := ⟨x + 1, 4, none⟩) (by rw [hx]; simp) (.int .u64 (hh : Int))
    obtain ⟨V9, hV9⟩ : ∃ V9, ((((W.setCell ⟨x + 1, 0, none⟩ (.int .i64 (v : Int))).setCell ⟨x + 1, 1, none⟩ (.bool false)).setCell ⟨x + 1, 2, none⟩ (.int .i64 (l : Int))).setCell ⟨x + 1, 3, none⟩ (.int .u64 (k : Int))).setCell ⟨x + 1, 4, none⟩ (.int .u64 (hh : Int)) = V9 := ⟨_, rfl⟩
    rw [hV9] at hset hkF ⊢
    have hset' : BoxD (x + 1) v false (l : Int) k hh V9.drew := hset
    go_wp2_with fail
    refine bodyPost_ret (results_lead rfl _ _ (x + 1) v false (l : Int) k hh rfl hset') rfl ?_
    exact ⟨rfl, hkF.drew⟩
  · have hhv : high = hh := by rw [← HHE.out, highOf, HN.out, if_neg hlast]
    subst hhv
    obtain ⟨j, hj⟩ : ∃ j, i + 1 = j := ⟨_, rfl⟩
    obtain ⟨t1, t2, t3⟩ := to_last' i j n hj hlast
    rw [hj] at n1 n2
    clear hlast hj
    go_enter Try.func51, Try.ntmps51
    go_wp2_with fail
    go_region
    have hset := HWB.out.2.2.set (page' := v) (root' := false) (lv' := (l : Int)) (low' := k) (high' := high)
    have hkF := ((((HWB.out.1.setCell (p := ⟨x + 1, 0, none⟩) (by rw [hx]; simp) (.int .i64 (v : Int))).setCell (p := ⟨x + 1, 1, none⟩) (by rw [hx]; simp) (.bool false)).setCell (p := ⟨x + 1, 2, none⟩) (by rw [hx]; simp) (.int .i64 (l : Int))).setCell (p := ⟨x + 1, 3, none⟩) (by rw [hx]; simp) (.int .u64 (k : Int))).setCell (p := ⟨x + 1, 4, none⟩) (by rw [hx]; simp) (.int .u64 (high : Int))
    obtain ⟨V9, hV9⟩ : ∃ V9, ((((W.setCell ⟨x + 1, 0, none⟩ (.int .i64 (v : Int))).setCell ⟨x + 1, 1, none⟩ (.bool false)).setCell ⟨x + 1, 2, none⟩ (.int .i64 (l : Int))).setCell ⟨x + 1, 3, none⟩ (.int .u64 (k : Int))).setCell ⟨x + 1, 4, none⟩ (.int .u64 (high : Int)) = V9 := ⟨_, rfl⟩
    rw [hV9] at hset hkF ⊢
    have hset' : BoxD (x + 1) v false (l : Int) k high V9.drew := hset
    go_wp2_with fail
    refine bodyPost_ret (results_lead rfl _ _ (x + 1) v false (l : Int) k high rfl hset') rfl ?_
    exact ⟨rfl, hkF.drew⟩

end Go.Proofs.Ytdbanlifneomgaa
