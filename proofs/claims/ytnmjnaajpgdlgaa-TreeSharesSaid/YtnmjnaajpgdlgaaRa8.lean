/- Package tree's read and add: through the interface, with a recover that finds nothing. -/
import Derived.Test.YtnmjnaajpgdlgaaShA
import Derived.Defers
import Derived.Recover
import Derived.Laws.Pointers
set_option linter.unusedVariables false
namespace Go.Proofs.Ytnmjnaajpgdlgaa
open Go.RowKit

/-- The Shelf as pages: an interface value. -/
def pgV (s : Nat) : Value := .iface 24 (.pointer (some ⟨s, 0, none⟩))

theorem trRead1 (a b : Value) (w : World) :
    CallsD Try.prog 59 #[a, b] .returning w fun e u' w' => e = .returned (.tuple #[]) ∧ u' = .returning ∧ w' = w := by
  refine callsD_of_wpS Try.func59 rfl fun c₀ cs hu => ?_
  apply wpS_seq
  apply wpS_region
  simp [wpOpsS, go_sem, recoverD, hu, Try.ntmps59, Exit.thenS]
  refine wpS_cond (t := false) (by simp [Act.eval, Array.replicate]) ?_
  simp only [Bool.false_eq_true, if_false]
  refine wpS_of_wp (wp_skip ?_)
  cases c₀
  simp_all [bodyPostS, results, Try.results59]
theorem trAdd1 (a b : Value) (w : World) :
    CallsD Try.prog 64 #[a, b] .returning w fun e u' w' => e = .returned (.tuple #[]) ∧ u' = .returning ∧ w' = w := by
  refine callsD_of_wpS Try.func64 rfl fun c₀ cs hu => ?_
  apply wpS_seq
  apply wpS_region
  simp [wpOpsS, go_sem, recoverD, hu, Try.ntmps64, Exit.thenS]
  refine wpS_cond (t := false) (by simp [Act.eval, Array.replicate]) ?_
  simp only [Bool.false_eq_true, if_false]
  refine wpS_of_wp (wp_skip ?_)
  cases c₀
  simp_all [bodyPostS, results, Try.results64]

theorem results_leafE {fn : Func} {p u : Tmp} (h : fn.results = #[.cell p 66, .cell u 33]) (tmps : Array Value) (w : World) (x : Nat) (lv : Int) (a : Option Addr) (n cap y : Nat) (ev : Int)
    (hp : tmps.getD p undef = .pointer (some ⟨x, 0, none⟩)) (hu : tmps.getD u undef = .pointer (some ⟨y, 0, none⟩)) (hb : BoxL x lv a n cap w) (hy : w.cell? ⟨y, 0, none⟩ = some (.int .i64 ev)) :
    (results fn tmps).run Try.prog w = .ok (.tuple #[leafV lv a n cap, .int .i64 ev]) w := by
  have c0 := hb.c0
  have c1 := hb.c1
  have hp' : tmps[p]?.getD undef = .pointer (some ⟨x, 0, none⟩) := by simpa using hp
  have hu' : tmps[u]?.getD undef = .pointer (some ⟨y, 0, none⟩) := by simpa using hu
  simp [results, h, hp', hu', asAddr, c0, c1, leafV, hy, go_sem]
theorem results_intE {fn : Func} {p u : Tmp} (h : fn.results = #[.cell p 3, .cell u 33]) (tmps : Array Value) (w : World) (x y : Nat) (iv ev : Int)
    (hp : tmps.getD p undef = .pointer (some ⟨x, 0, none⟩)) (hu : tmps.getD u undef = .pointer (some ⟨y, 0, none⟩)) (hx : w.cell? ⟨x, 0, none⟩ = some (.int .i64 iv)) (hy : w.cell? ⟨y, 0, none⟩ = some (.int .i64 ev)) :
    (results fn tmps).run Try.prog w = .ok (.tuple #[.int .i64 iv, .int .i64 ev]) w := by
  have hp' : tmps[p]?.getD undef = .pointer (some ⟨x, 0, none⟩) := by simpa using hp
  have hu' : tmps[u]?.getD undef = .pointer (some ⟨y, 0, none⟩) := by simpa using hu
  simp [results, h, hp', hu', asAddr, hx, hy, go_sem]

set_option maxRecDepth 100000 in
theorem trRead {w : World} {s room : Nat} {N : List Nd} {D : Nat → Prop} (h : IsSh w s room N D) (i : Nat) (hi : i < N.length) :
    Calls Try.prog 50 #[pgV s, .int .i64 ((i + 1 : Nat) : Int)] w (RdS w (N[i].1 : Int) N[i].2) := by
  have hmf : ∀ (fn : Fn) (first cap : Array Value) (w : World), (Instr.makeFunc fn first cap).run Try.prog w = .ok (.func fn first cap) w := fun _ _ _ _ => rfl
  obtain ⟨p, hp⟩ : ∃ p, i + 1 = p := ⟨_, rfl⟩
  obtain ⟨lv, hlv⟩ : ∃ lv, N[i].1 = lv := ⟨_, rfl⟩
  obtain ⟨ps, hpe⟩ : ∃ ps, N[i].2 = ps := ⟨_, rfl⟩
  obtain ⟨W, hW⟩ : ∃ W, (w.alloc (.cells #[.int .i64 0, .slice none 0 0] 66)).alloc (.cells #[.int .i64 0] 33) = W := ⟨_, rfl⟩
  have hk : KeptIn (· < w.heap.size) w W := by rw [← hW]; exact ((KeptIn.refl _ w).alloc (fun _ h => h) _).alloc (fun _ h => h) _
  have C := shRead (h.old hk) i hi
  rw [hp, hlv, hpe] at C
  rw [hp, hlv, hpe]
  have HC := Lib.hid C
  obtain ⟨x, hx⟩ : ∃ x, w.heap.size = x := ⟨_, rfl⟩
  have hb : BoxL x 0 none 0 0 W := by rw [← hW, ← hx]; exact (BoxL.new w 0 none 0 0).kept ((KeptIn.refl _ _).alloc (fun _ h => h) _) (by simp)
  have hb2 : W.heap[x + 1]? = some (.cells #[.int .i64 0] 33 (0, 0)) := by
    rw [← hW, ← hx, show w.heap.size + 1 = (w.alloc (.cells #[.int .i64 0, .slice none 0 0] 66)).heap.size by simp]
    exact heap_alloc_new _ _
  have HB := Lib.hid (And.intro hb (And.intro hb2 hk))
  clear C hb hb2 hk hp hlv hpe hi
  unfold pgV
  go_enter_defers Try.func50, Try.ntmps50
  go_wp2_with (go_at_call 21; refine HC.out.mono ?_)
  rintro e V ⟨g, cg, rfl, hps, hg, hkV, hty⟩
  have hbV := HB.out.1.kept hkV HB.out.1.lt
  have hb2V := (hkV.block (x + 1) (Array.getElem?_eq_some_iff.1 HB.out.2.1).1).trans HB.out.2.1
  have c0 := hbV.c0
  have f0 := hbV.f0
  have c1 := hbV.c1
  have f1 := hbV.f1
  have c2 : V.cell? ⟨x + 1, 0, none⟩ = some (.int .i64 0) := by simp [World.cell?, hb2V]
  have f2 : V.frozen? ⟨x + 1, 0, none⟩ = false := by simp [World.frozen?, hb2V]
  have hwx : x ≤ W.heap.size := by rw [← hx]; exact HB.out.2.2.size
  have hxg : x + 1 < g := Nat.lt_of_lt_of_le (Array.getElem?_eq_some_iff.1 HB.out.2.1).1 hg
  have hkx : KeptIn (· < x) w V := by rw [← hx]; exact HB.out.2.2.go hkV
  have HF := Lib.hid (And.intro hbV (And.intro hb2V (And.intro hps (And.intro hxg hkx))))
  have HTY := Lib.hid hty
  clear hty
  clear hbV hb2V hps hxg hkx hkV hg hwx
  unfold leafV at *
  obtain ⟨m, hm⟩ : ∃ m, ps.length = m := ⟨_, rfl⟩
  rw [hm]
  go_wp2_with fail
  have hset := BoxL.set (lv' := (lv : Int)) (a' := some ⟨g, 0, none⟩) (n' := m) (cap' := cg) HF.out.1
  have hset2 : BoxL x (lv : Int) (some ⟨g, 0, none⟩) m cg (((V.setCell ⟨x, 0, none⟩ (.int .i64 (lv : Int))).setCell ⟨x, 1, none⟩ (.slice (some ⟨g, 0, none⟩) m cg)).setCell ⟨x + 1, 0, none⟩ (.int .i64 0)) := (heap_setCell_other _ _ _ _ (by simp)).trans hset
  have hps := psSet (psSet (psSet HF.out.2.2.1 ⟨x, 0, none⟩ (.int .i64 (lv : Int)) (fun p e => by cases e; have := HF.out.2.2.2.1; simp; omega)) ⟨x, 1, none⟩ (.slice (some ⟨g, 0, none⟩) m cg) (fun p e => by cases e; have := HF.out.2.2.2.1; simp; omega)) ⟨x + 1, 0, none⟩ (.int .i64 0) (fun p e => by cases e; have := HF.out.2.2.2.1; simp; omega)
  have hkx := ((HF.out.2.2.2.2.setCell (p := ⟨x, 0, none⟩) (by simp) (.int .i64 (lv : Int))).setCell (p := ⟨x, 1, none⟩) (by simp) (.slice (some ⟨g, 0, none⟩) m cg)).setCell (p := ⟨x + 1, 0, none⟩) (by simp) (.int .i64 0)
  have he : (((V.setCell ⟨x, 0, none⟩ (.int .i64 (lv : Int))).setCell ⟨x, 1, none⟩ (.slice (some ⟨g, 0, none⟩) m cg)).setCell ⟨x + 1, 0, none⟩ (.int .i64 0)).cell? ⟨x + 1, 0, none⟩ = some (.int .i64 0) := World.cell?_setCell_same' _ _ _ (by
    have : ((V.setCell ⟨x, 0, none⟩ (.int .i64 (lv : Int))).setCell ⟨x, 1, none⟩ (.slice (some ⟨g, 0, none⟩) m cg)).heap[x + 1]? = V.heap[x + 1]? := (heap_setCell_other _ _ _ _ (by simp)).trans (heap_setCell_other _ _ _ _ (by simp))
    rw [World.cell?_of_block (a := ⟨x + 1, 0, none⟩) this, c2]; rfl)
  have hty9 := ((HTY.out.set ⟨x, 0, none⟩ (.int .i64 (lv : Int)) (by have := HF.out.2.2.2.1; simp; omega)).set ⟨x, 1, none⟩ (.slice (some ⟨g, 0, none⟩) m cg) (by have := HF.out.2.2.2.1; simp; omega)).set ⟨x + 1, 0, none⟩ (.int .i64 0) (by have := HF.out.2.2.2.1; simp; omega)
  obtain ⟨W9, hW9⟩ : ∃ W9, ((V.setCell ⟨x, 0, none⟩ (.int .i64 (lv : Int))).setCell ⟨x, 1, none⟩ (.slice (some ⟨g, 0, none⟩) m cg)).setCell ⟨x + 1, 0, none⟩ (.int .i64 0) = W9 := ⟨_, rfl⟩
  rw [hW9] at hset2 hps hkx he hty9 ⊢
  clear hW9
  refine leaves_cons (f := 59) (args := #[.pointer (some ⟨x, 0, none⟩), .pointer (some ⟨x + 1, 0, none⟩)]) (by simp) (by simp [go_sem]) ?_
  refine (trRead1 _ _ _).mono ?_
  rintro e u' w'' ⟨rfl, rfl, rfl⟩
  exact ⟨_, results_leafE rfl _ _ x _ _ _ _ (x + 1) _ rfl rfl hset2 he, g, cg, by rw [hm], hps, by rw [hx]; have := HF.out.2.2.2.1; omega, by rw [hx]; exact hkx, hty9⟩

set_option maxRecDepth 100000 in
theorem trAdd {w : World} {s room : Nat} {N : List Nd} {D : Nat → Prop} (h : IsSh w s room N D) (hroom : N.length < min room 511) (lv : Nat) (a : Option Addr) (cp : Nat) (ps : Pairs) (hps : IsPs w a ps) (h0 : 0 < ps.length) (hl : ps.length ≤ 1000) :
    Calls Try.prog 57 #[pgV s, leafV (lv : Int) a ps.length cp] w (AddS w s room N D (lv, ps)) := by
  have hmf : ∀ (fn : Fn) (first cap : Array Value) (w : World), (Instr.makeFunc fn first cap).run Try.prog w = .ok (.func fn first cap) w := fun _ _ _ _ => rfl
  obtain ⟨m, hm⟩ : ∃ m, ps.length = m := ⟨_, rfl⟩
  obtain ⟨W, hW⟩ : ∃ W, ((w.alloc (.cells #[.int .i64 (lv : Int), .slice a m cp] 66)).alloc (.cells #[.int .i64 0] 3)).alloc (.cells #[.int .i64 0] 33) = W := ⟨_, rfl⟩
  have hk : KeptIn (· < w.heap.size) w W := by rw [← hW]; exact (((KeptIn.refl _ w).alloc (fun _ h => h) _).alloc (fun _ h => h) _).alloc (fun _ h => h) _
  have hsz : W.heap.size = w.heap.size + 3 := by rw [← hW]; simp
  have C := shAdd (h.old hk) hroom lv a cp ps (hps.old hk) h0 hl
  unfold leafV at C ⊢
  rw [hm] at C ⊢
  obtain ⟨n9, hn9⟩ : ∃ n9, N.length + 1 = n9 := ⟨_, rfl⟩
  have HC := Lib.hid C
  obtain ⟨x, hx⟩ : ∃ x, w.heap.size = x := ⟨_, rfl⟩
  rw [hx] at hsz
  have hlf : BoxL x (lv : Int) a m cp W := by
    rw [← hW, ← hx]
    exact ((BoxL.new w (lv : Int) a m cp).kept ((KeptIn.refl _ _).alloc (fun _ h => h) _) (by simp)).kept ((KeptIn.refl _ _).alloc (fun _ h => h) _) (by simp; omega)
  have hb1 : W.heap[x + 1]? = some (.cells #[.int .i64 0] 3 (0, 0)) := by
    rw [← hW, ← hx, show w.heap.size + 1 = (w.alloc (.cells #[.int .i64 (lv : Int), .slice a m cp] 66)).heap.size by simp]
    exact (Lib.alloc_old _ _ _ (by simp)).trans (heap_alloc_new _ _)
  have hb2 : W.heap[x + 2]? = some (.cells #[.int .i64 0] 33 (0, 0)) := by
    rw [← hW, ← hx, show w.heap.size + 2 = ((w.alloc (.cells #[.int .i64 (lv : Int), .slice a m cp] 66)).alloc (.cells #[.int .i64 0] 3)).heap.size by simp]
    exact heap_alloc_new _ _
  have c0 := hlf.c0
  have c1 := hlf.c1
  have HB := Lib.hid (And.intro hb1 (And.intro hb2 (And.intro hk (And.intro hsz (h.lt s h.ds)))))
  have HH := Lib.hid h
  clear C hb1 hb2 hk hps hlf hsz h hroom hl
  unfold pgV
  go_enter_defers Try.func57, Try.ntmps57
  go_wp2_with (go_at_call 87; refine HC.out.mono ?_)
  rintro e V ⟨D', rfl, hV, hD', hkV⟩
  rw [hn9]
  have hs : s < x := by rw [← hx]; exact HB.out.2.2.2.2
  have hb1V := (hkV.block (x + 1) ⟨by rw [HB.out.2.2.2.1]; omega, by omega⟩).trans HB.out.1
  have hb2V := (hkV.block (x + 2) ⟨by rw [HB.out.2.2.2.1]; omega, by omega⟩).trans HB.out.2.1
  have d1 : V.cell? ⟨x + 1, 0, none⟩ = some (.int .i64 0) := by simp [World.cell?, hb1V]
  have f1 : V.frozen? ⟨x + 1, 0, none⟩ = false := by simp [World.frozen?, hb1V]
  have d2 : V.cell? ⟨x + 2, 0, none⟩ = some (.int .i64 0) := by simp [World.cell?, hb2V]
  have f2 : V.frozen? ⟨x + 2, 0, none⟩ = false := by simp [World.frozen?, hb2V]
  have hn1 : ¬ D' (x + 1) := fun hd => by
    rcases hD' _ hd with h1 | h1
    · have := HH.out.lt _ h1; omega
    · have := HB.out.2.2.2.1; omega
  have hn2 : ¬ D' (x + 2) := fun hd => by
    rcases hD' _ hd with h1 | h1
    · have := HH.out.lt _ h1; omega
    · have := HB.out.2.2.2.1; omega
  have hDD : ∀ k, D' k → D k ∨ w.heap.size ≤ k := fun k hd => (hD' k hd).imp id fun h1 => Nat.le_trans HB.out.2.2.1.size h1
  have hkw : KeptIn (fun k => k < w.heap.size ∧ k ≠ s) w V := (HB.out.2.2.1.mono fun _ h => h.1).trans (hkV.mono fun k h => ⟨Nat.lt_of_lt_of_le h.1 HB.out.2.2.1.size, h.2⟩)
  have HF := Lib.hid (And.intro hV (And.intro hDD (And.intro hkw (And.intro hn1 (And.intro hn2 (And.intro hb1V hb2V))))))
  clear hV hDD hkw hn1 hn2 hkV hD' hb1V hb2V hs
  go_wp2_with fail
  have hV9 := (HF.out.1.kept ((KeptIn.refl D' V).setCell (p := ⟨x + 1, 0, none⟩) HF.out.2.2.2.1 (.int .i64 (n9 : Int)))).kept ((KeptIn.refl D' _).setCell (p := ⟨x + 2, 0, none⟩) HF.out.2.2.2.2.1 (.int .i64 0))
  have hk9 := (HF.out.2.2.1.setCell (p := ⟨x + 1, 0, none⟩) (fun h => by have h1 : x + 1 < w.heap.size := h.1; omega) (.int .i64 (n9 : Int))).setCell (p := ⟨x + 2, 0, none⟩) (fun h => by have h1 : x + 2 < w.heap.size := h.1; omega) (.int .i64 0)
  have q1 : ((V.setCell ⟨x + 1, 0, none⟩ (.int .i64 (n9 : Int))).setCell ⟨x + 2, 0, none⟩ (.int .i64 0)).cell? ⟨x + 1, 0, none⟩ = some (.int .i64 (n9 : Int)) := by
    rw [World.cell?_of_block (a := ⟨x + 1, 0, none⟩) (heap_setCell_other _ _ _ _ (by simp))]
    exact World.cell?_setCell_same' _ _ _ (by rw [d1]; rfl)
  have q2 : ((V.setCell ⟨x + 1, 0, none⟩ (.int .i64 (n9 : Int))).setCell ⟨x + 2, 0, none⟩ (.int .i64 0)).cell? ⟨x + 2, 0, none⟩ = some (.int .i64 0) := World.cell?_setCell_same' _ _ _ (by
    rw [World.cell?_of_block (a := ⟨x + 2, 0, none⟩) (heap_setCell_other _ _ _ _ (by simp)), d2]; rfl)
  obtain ⟨W9, hW9⟩ : ∃ W9, (V.setCell ⟨x + 1, 0, none⟩ (.int .i64 (n9 : Int))).setCell ⟨x + 2, 0, none⟩ (.int .i64 0) = W9 := ⟨_, rfl⟩
  rw [hW9] at hV9 hk9 q1 q2 ⊢
  clear hW9
  refine leaves_cons (f := 64) (args := #[.pointer (some ⟨x + 1, 0, none⟩), .pointer (some ⟨x + 2, 0, none⟩)]) (by simp) (by simp [go_sem]) ?_
  refine (trAdd1 _ _ _).mono ?_
  rintro e u' w'' ⟨rfl, rfl, rfl⟩
  exact ⟨_, results_intE rfl _ _ (x + 1) (x + 2) _ _ rfl rfl q1 q2, D', by rw [hn9], hV9, HF.out.2.1, hk9⟩

set_option maxRecDepth 100000 in
theorem trAddFull {w : World} {s room : Nat} {N : List Nd} {D : Nat → Prop} (h : IsSh w s room N D) (hroom : min room 511 ≤ N.length) (lv : Nat) (a : Option Addr) (cp : Nat) (ps : Pairs) :
    Calls Try.prog 57 #[pgV s, leafV (lv : Int) a ps.length cp] w fun e w' => e = .returned (.tuple #[.int .i64 0, .int .i64 6]) ∧ KeptIn (· < w.heap.size) w w' := by
  have hmf : ∀ (fn : Fn) (first cap : Array Value) (w : World), (Instr.makeFunc fn first cap).run Try.prog w = .ok (.func fn first cap) w := fun _ _ _ _ => rfl
  obtain ⟨m, hm⟩ : ∃ m, ps.length = m := ⟨_, rfl⟩
  obtain ⟨W, hW⟩ : ∃ W, ((w.alloc (.cells #[.int .i64 (lv : Int), .slice a m cp] 66)).alloc (.cells #[.int .i64 0] 3)).alloc (.cells #[.int .i64 0] 33) = W := ⟨_, rfl⟩
  have hk : KeptIn (· < w.heap.size) w W := by rw [← hW]; exact (((KeptIn.refl _ w).alloc (fun _ h => h) _).alloc (fun _ h => h) _).alloc (fun _ h => h) _
  have hsz : W.heap.size = w.heap.size + 3 := by rw [← hW]; simp
  have C := shFull (h.old hk) hroom (lv : Int) a m cp
  unfold leafV at C ⊢
  rw [hm]
  have HC := Lib.hid C
  obtain ⟨x, hx⟩ : ∃ x, w.heap.size = x := ⟨_, rfl⟩
  rw [hx] at hsz
  have hlf : BoxL x (lv : Int) a m cp W := by
    rw [← hW, ← hx]
    exact ((BoxL.new w (lv : Int) a m cp).kept ((KeptIn.refl _ _).alloc (fun _ h => h) _) (by simp)).kept ((KeptIn.refl _ _).alloc (fun _ h => h) _) (by simp; omega)
  have hb1 : W.heap[x + 1]? = some (.cells #[.int .i64 0] 3 (0, 0)) := by
    rw [← hW, ← hx, show w.heap.size + 1 = (w.alloc (.cells #[.int .i64 (lv : Int), .slice a m cp] 66)).heap.size by simp]
    exact (Lib.alloc_old _ _ _ (by simp)).trans (heap_alloc_new _ _)
  have hb2 : W.heap[x + 2]? = some (.cells #[.int .i64 0] 33 (0, 0)) := by
    rw [← hW, ← hx, show w.heap.size + 2 = ((w.alloc (.cells #[.int .i64 (lv : Int), .slice a m cp] 66)).alloc (.cells #[.int .i64 0] 3)).heap.size by simp]
    exact heap_alloc_new _ _
  have c0 := hlf.c0
  have c1 := hlf.c1
  have HB := Lib.hid (And.intro hb1 (And.intro hb2 (And.intro hk hsz)))
  clear C hb1 hb2 hk hlf hsz h hroom
  unfold pgV
  go_enter_defers Try.func57, Try.ntmps57
  go_wp2_with (go_at_call 87; refine HC.out.mono ?_)
  rintro e V ⟨rfl, hkV⟩
  have hb1V := (hkV.block (x + 1) (by rw [HB.out.2.2.2]; omega)).trans HB.out.1
  have hb2V := (hkV.block (x + 2) (by rw [HB.out.2.2.2]; omega)).trans HB.out.2.1
  have d1 : V.cell? ⟨x + 1, 0, none⟩ = some (.int .i64 0) := by simp [World.cell?, hb1V]
  have f1 : V.frozen? ⟨x + 1, 0, none⟩ = false := by simp [World.frozen?, hb1V]
  have d2 : V.cell? ⟨x + 2, 0, none⟩ = some (.int .i64 0) := by simp [World.cell?, hb2V]
  have f2 : V.frozen? ⟨x + 2, 0, none⟩ = false := by simp [World.frozen?, hb2V]
  have HF := Lib.hid (HB.out.2.2.1.go hkV)
  clear hkV hb1V hb2V
  go_wp2_with fail
  have hk9 := (HF.out.setCell (p := ⟨x + 1, 0, none⟩) (by rw [hx]; simp) (.int .i64 0)).setCell (p := ⟨x + 2, 0, none⟩) (by rw [hx]; simp) (.int .i64 6)
  have q1 : ((V.setCell ⟨x + 1, 0, none⟩ (.int .i64 0)).setCell ⟨x + 2, 0, none⟩ (.int .i64 6)).cell? ⟨x + 1, 0, none⟩ = some (.int .i64 0) := by
    rw [World.cell?_of_block (a := ⟨x + 1, 0, none⟩) (heap_setCell_other _ _ _ _ (by simp))]
    exact World.cell?_setCell_same' _ _ _ (by rw [d1]; rfl)
  have q2 : ((V.setCell ⟨x + 1, 0, none⟩ (.int .i64 0)).setCell ⟨x + 2, 0, none⟩ (.int .i64 6)).cell? ⟨x + 2, 0, none⟩ = some (.int .i64 6) := World.cell?_setCell_same' _ _ _ (by
    rw [World.cell?_of_block (a := ⟨x + 2, 0, none⟩) (heap_setCell_other _ _ _ _ (by simp)), d2]; rfl)
  obtain ⟨W9, hW9⟩ : ∃ W9, (V.setCell ⟨x + 1, 0, none⟩ (.int .i64 0)).setCell ⟨x + 2, 0, none⟩ (.int .i64 6) = W9 := ⟨_, rfl⟩
  rw [hW9] at hk9 q1 q2 ⊢
  clear hW9
  refine leaves_cons (f := 64) (args := #[.pointer (some ⟨x + 1, 0, none⟩), .pointer (some ⟨x + 2, 0, none⟩)]) (by simp) (by simp [go_sem]) ?_
  refine (trAdd1 _ _ _).mono ?_
  rintro e u' w'' ⟨rfl, rfl, rfl⟩
  exact ⟨_, results_intE rfl _ _ (x + 1) (x + 2) _ _ rfl rfl q1 q2, rfl, hk9⟩

end Go.Proofs.Ytnmjnaajpgdlgaa
