import Derived.Test.YtjollbaohopmjaaCl9W
/- Package reach's counts: the mathematics; what stands in its loops. -/
set_option linter.unusedVariables false
namespace Go.Proofs.Ytjollbaohopmjaa
open Go.RowKit

/-- A count, as a map's element. -/
def cnV (n : Nat) : Value := .int .i64 (n : Int)
theorem cnV_inj (a b : Nat) (h : cnV a = cnV b) : a = b := by
  unfold cnV at h
  simp only [Value.int.injEq, true_and] at h
  omega
theorem zeroCn9 (w : World) : (zeroValue 3).run Try.prog w = .ok (cnV 0) w := by
  have : (zeroValue 3).run Try.prog w = .ok (.int .i64 0) w := by kernel_rfl
  rw [this]
  rfl
/-- The map of counts that aren't 0. -/
def cnM (C : Int → Nat) : Int → Option Nat := fun q => if C q = 0 then none else some (C q)
def cnUp (C : Int → Nat) (x : Int) : Int → Nat := fun q => if q = x then C x + 1 else C q
theorem cnM_get (C : Int → Nat) (x : Int) : (cnM C x).getD 0 = C x := by
  unfold cnM
  split
  · rename_i h; rw [h]; rfl
  · rfl
theorem cnM_up (C : Int → Nat) (x : Int) : mpPut (cnM C) x (C x + 1) = cnM (cnUp C x) := by
  funext q
  unfold mpPut cnM cnUp
  by_cases h : q = x
  · subst h; simp
  · rw [if_neg h, if_neg h]

/-- Where a pair leads. -/
def kv9 (p : Nat × Nat) : Int := wrap64 (p.2 : Int)
def vls (ps : Pairs) (q : Int) : Nat := ps.countP fun p => kv9 p == q
theorem vls_snoc (ps : Pairs) (p : Nat × Nat) (q : Int) : vls (ps ++ [p]) q = vls ps q + (if q = kv9 p then 1 else 0) := by
  unfold vls
  rw [List.countP_append, List.countP_cons, List.countP_nil]
  by_cases h : q = kv9 p
  · subst h; simp
  · rw [if_neg h, if_neg (by simpa using fun e => h e.symm)]
def mlt (N : List Nd) (i : Nat) (q : Int) : Nat := match N[i]? with
  | some nd => if nd.1 = 0 then 0 else vls nd.2 q
  | none => 0
/-- How often roots lead to a page. -/
def cnR (rs : List Int) (q : Int) : Nat := rs.countP fun r => r == q && r != 0
theorem cnR_snoc (rs : List Int) (r : Int) (q : Int) : cnR (rs ++ [r]) q = cnR rs q + (if q = r ∧ r ≠ 0 then 1 else 0) := by
  unfold cnR
  rw [List.countP_append, List.countP_cons, List.countP_nil]
  by_cases h : q = r
  · subst h
    by_cases h0 : q = 0
    · subst h0; simp
    · simp [h0]
  · have h1 : ¬ (q = r ∧ r ≠ 0) := fun e => h e.1
    have h2 : (r == q && r != 0) = false := by
      rw [Bool.and_eq_false_iff]
      exact .inl (by rw [beq_eq_false_iff_ne]; exact fun e => h e.symm)
    rw [if_neg h1, h2]
    rfl
/-- How often the nodes of these pages lead to one. -/
def cnP (N : List Nd) (P : Int → Bool) (q : Int) : Nat := ((List.range N.length).map fun i => if P ((i + 1 : Nat) : Int) then mlt N i q else 0).sum
theorem sum_up {n : Nat} {f g : Nat → Nat} {i d : Nat} (hi : i < n) (h1 : g i = f i + d) (h2 : ∀ j, j ≠ i → g j = f j) : ((List.range n).map g).sum = ((List.range n).map f).sum + d := by
  induction n with
  | zero => omega
  | succ n ih =>
    rw [List.range_succ, List.map_append, List.map_append, List.sum_append, List.sum_append]
    simp only [List.map_cons, List.map_nil, List.sum_cons, List.sum_nil, Nat.add_zero]
    rcases Nat.lt_or_ge i n with h | h
    · rw [ih h, h2 n (by omega)]
      omega
    · obtain rfl : i = n := by omega
      have : (List.range i).map g = (List.range i).map f := List.map_congr_left fun j hj => h2 j (by have := List.mem_range.1 hj; omega)
      rw [this, h1]
      omega
theorem cnP_add (N : List Nd) (P : Int → Bool) {i : Nat} (hi : i < N.length) (hP : P ((i + 1 : Nat) : Int) = false) (q : Int) : cnP N (fun z => P z || decide (z = ((i + 1 : Nat) : Int))) q = cnP N P q + mlt N i q := by
  unfold cnP
  refine sum_up hi ?_ fun j hj => ?_
  · rw [hP]
    simp
  · have : ¬ ((j + 1 : Nat) : Int) = ((i + 1 : Nat) : Int) := by omega
    simp only [this, decide_false, Bool.or_false]
theorem cnP_congr (N : List Nd) {P Q : Int → Bool} (h : ∀ z, P z = Q z) (q : Int) : cnP N P q = cnP N Q q := by
  have : P = Q := funext h
  rw [this]
theorem cnP_none (N : List Nd) {P : Int → Bool} (h : ∀ z, P z = false) (q : Int) : cnP N P q = 0 := by
  unfold cnP
  have e : ∀ n : Nat, ((List.range n).map fun i => if P ((i + 1 : Nat) : Int) then mlt N i q else 0).sum = 0 := fun n => by
    induction n with
    | zero => rfl
    | succ n ih =>
      rw [List.range_succ, List.map_append, List.sum_append, ih]
      simp [h]
  exact e _
theorem sameKey9 (a b : Int) : (Lit.int .i64 a).sameKey (.int .i64 b) = decide (a = b) := by
  by_cases h : a = b
  · subst h; simp [Lit.sameKey]
  · simp [Lit.sameKey, h]
/-- How often each page is led to. -/
def cnA (N : List Nd) (rs : List Int) (P : Int → Bool) : Int → Nat := fun q => cnR rs q + cnP N P q

theorem IsMm.map3 {α : Type} {V : α → Value} {W W2 : World} {x y c n : Nat} {N : List Nd} {M : Int → Option (Option Lf9)} {T : Int → Option α} (h : IsMm W x c N M) (hT : MpAt V y n T W) (hyx : y ≠ x) (hk : KeptIn (· ≠ y) W W2) : IsMm W2 x c N M := by
  refine ⟨h.map.kept hk hyx.symm, fun p z hz => ?_⟩
  obtain ⟨i, hi, g, cap, q1, q2, q3, q4⟩ := h.node p z hz
  have hg : g ≠ y := q4.1.ne_map hT
  exact ⟨i, hi, g, cap, q1, q2, psAt q3 hk (fun p e => by cases e; exact hg), ⟨q4.1.kept (hk.block g hg), q4.2⟩⟩

/-- What stands in counts. -/
structure CnI (w : World) (x c y n B s : Nat) (N : List Nd) (M : Int → Option (Option Lf9)) (C : Int → Nat) (W : World) : Prop where
  mm : IsMm W x c N M
  cn : MpAt cnV y n (cnM C) W
  yx : y ≠ x
  yn : w.heap.size ≤ y
  box : W.heap[B]? = some (.cells #[pgV s, .map (some x)] 60 (0, 0))
  kept : KeptIn (· < w.heap.size) w W
  cb : ∀ q, C q ≤ n
section
variable {w W W' : World} {x c y n B s : Nat} {N : List Nd} {M : Int → Option (Option Lf9)} {C : Int → Nat}
theorem CnI.old (h : CnI w x c y n B s N M C W) (hk : KeptIn (· < W.heap.size) W W') : CnI w x c y n B s N M C W' :=
  ⟨h.mm.old hk, h.cn.kept hk h.cn.lt, h.yx, h.yn, (hk.block B (Array.getElem?_eq_some_iff.1 h.box).1).trans h.box, h.kept.go hk, h.cb⟩
theorem IsMm.at9 {q : Int} {i g cp len : Nat} {lv : Int} (h : IsMm W x c N M) (hq : q = ((i + 1 : Nat) : Int)) (hi : i < N.length) (hM : M q = some (some (lv, g, len, cp))) : IsPs W (some ⟨g, 0, none⟩) N[i].2 ∧ lv = (N[i].1 : Int) ∧ len = N[i].2.length ∧ ∃ cs fr, W.heap[g]? = some (.cells cs 75 fr) := by
  obtain ⟨i', hi', g', cap', e1, e2, e3, e4⟩ := h.node q _ hM
  have : i' = i := by omega
  subst this
  simp only [Option.some.injEq, Prod.mk.injEq] at e2
  obtain ⟨r1, r2, r3, r4⟩ := e2
  subst r2
  exact ⟨e3, r1, r3, e4.1⟩
/-- Behind a step of the range over memo's map. -/
theorem CnI.step {R : Nat} {o1 : Option Nat} {a1 a3 : Nat} {a2 : Array Nat} (h : CnI w x c y n B s N M C W) (hR : W.heap[R]? = some (.mapIter o1 a1 a2 a3)) (hg : W.grownBy W' (some R)) (hRw : w.heap.size ≤ R) : CnI w x c y n B s N M C W' := by
  have hk : KeptIn (fun k => k < W.heap.size ∧ k ≠ R) W W' := (KeptIn.refl _ W).grown (fun k h => h.1) hg (fun g e h => h.2 (Option.some.inj e).symm)
  have hxR : x ≠ R := fun e => by
    obtain ⟨D, ⟨es, clock, h1, _⟩, _⟩ := h.mm.map
    rw [e, hR] at h1
    cases h1
  have hyR : y ≠ R := fun e => by
    obtain ⟨D, ⟨es, clock, h1, _⟩, _⟩ := h.cn
    rw [e, hR] at h1
    cases h1
  have hBR : B ≠ R := fun e => by
    have := h.box
    rw [e, hR] at this
    cases this
  refine ⟨⟨h.mm.map.kept hk ⟨h.mm.lt, hxR⟩, fun p z hz => ?_⟩, h.cn.kept hk ⟨h.cn.lt, hyR⟩, h.yx, h.yn, (hk.block B ⟨(Array.getElem?_eq_some_iff.1 h.box).1, hBR⟩).trans h.box, h.kept.trans (hk.mono fun k hk' => ⟨Nat.lt_of_lt_of_le hk' h.kept.size, by omega⟩), h.cb⟩
  obtain ⟨i, hi, g, cap, q1, q2, q3, q4⟩ := h.mm.node p z hz
  have hgR : g ≠ R := fun e => by
    obtain ⟨cs, fr, h1⟩ := q4.1
    rw [e, hR] at h1
    cases h1
  have hgl : g < W.heap.size := q4.1.lt
  exact ⟨i, hi, g, cap, q1, q2, psAt q3 hk (fun p e => by cases e; exact ⟨hgl, hgR⟩), ⟨q4.1.kept (hk.block g ⟨hgl, hgR⟩), q4.2⟩⟩
theorem CnI.look (h : CnI w x c y n B s N M C W) (q : Int) (hq : (Lit.int .i64 q).wf = true) : (Instr.lookup 62 (.map (some y)) (.int .i64 q) false).run Try.prog W = .ok (.int .i64 (C q : Int)) W := by
  have := (h.cn.look cnV_inj Try.underlying62 0 (zeroCn9 W) q hq).2
  rw [cnM_get] at this
  exact this
theorem CnI.up (h : CnI w x c y n B s N M C W) (hn : n < maxLen) (q : Int) (hq : (Lit.int .i64 q).wf = true) : ∃ W2, (Instr.mapUpdate 62 (.map (some y)) (.int .i64 q) (.int .i64 ((C q + 1 : Nat) : Int))).run Try.prog W = .ok () W2 ∧ CnI w x c y (n + 1) B s N M (cnUp C q) W2 ∧ KeptIn (· ≠ y) W W2 ∧ W2.heap.size = W.heap.size := by
  obtain ⟨W2, h1, h2, h3, h4⟩ := h.cn.store cnV_inj Try.underlying62 hn q hq (C q + 1)
  rw [cnM_up] at h2
  refine ⟨W2, h1, ⟨h.mm.map3 h.cn h.yx h3, h2, h.yx, h.yn, (h3.block B (fun e => h.cn.ne h.box e)).trans h.box, h.kept.trans (h3.mono fun k hk => by have := h.yn; omega), fun z => ?_⟩, h3, h4⟩
  unfold cnUp
  split
  · have := h.cb q; omega
  · have := h.cb z; omega
theorem grown_kept0 {W W' : World} (h : W.grownBy W' none) : KeptIn (· < W.heap.size) W W' := (KeptIn.refl _ W).grown (fun k h => h) h (fun g e => by cases e)
theorem wf_wrap64 (z : Int) : (Lit.int .i64 (wrap64 z)).wf = true := by
  have : -9223372036854775808 ≤ wrap64 z ∧ wrap64 z ≤ 9223372036854775807 := by unfold wrap64; omega
  simp [Lit.wf, IntKind.min, IntKind.max, IntKind.signed, IntKind.bits]
  omega

theorem CnI.cEq (h : CnI w x c y n B s N M C W) {C' : Int → Nat} (e : ∀ q, C q = C' q) : CnI w x c y n B s N M C' W := by
  have : C = C' := funext e
  rw [← this]
  exact h
theorem CnI.nLe (h : CnI w x c y n B s N M C W) {n' : Nat} (hn : n ≤ n') : CnI w x c y n' B s N M C W :=
  ⟨h.mm, h.cn.mono hn, h.yx, h.yn, h.box, h.kept, fun q => Nat.le_trans (h.cb q) hn⟩
end
theorem psG9 {W : World} {g : Nat} {ps : Pairs} (h : IsPs W (some ⟨g, 0, none⟩) ps) {j : Nat} (hj : j < ps.length) : W.cell? ⟨g, j * 2, none⟩ = some (.int .u64 (keyAt ps j : Int)) ∧ W.cell? ⟨g, j * 2 + 1, none⟩ = some (.int .u64 (valAt ps j : Int)) := by
  obtain ⟨b', off', e, hb, hc⟩ := h.cells (by omega)
  simp only [Option.some.injEq, Addr.mk.injEq, and_true] at e
  obtain ⟨rfl, rfl⟩ := e
  have := hc j hj
  rw [Nat.zero_add] at this
  exact this
theorem cn_num (k : Nat) (hk : k ≤ 100000000) : ∃ k2 : Nat, k + 1 = k2 ∧ wrap64 (k2 : Int) = (k2 : Int) ∧ (k : Int) + 1 = (k2 : Int) := ⟨k + 1, rfl, by unfold wrap64; omega, by omega⟩
/-- The range over memo's map depends on two blocks. -/
theorem ranges_block {H : Type} {P : Program} {k : TypeId} {R : Value → Option (DataW H × List MemPlace)} {w w' : World} {b r n cnt : Nat} {D : DataW H} {left : Lit → Bool} (h : w.ranges P k R b r n D left cnt) (hb : w'.heap[b]? = w.heap[b]?) (hr : w'.heap[r]? = w.heap[r]?) : w'.ranges P k R b r n D left cnt := by
  obtain ⟨es, clock, since, seen, c0, h1, h2, h3, h4, h5, h6⟩ := h
  exact ⟨es, clock, since, seen, c0, hb.trans h1, h2, h3, h4, hr.trans h5, h6⟩

end Go.Proofs.Ytjollbaohopmjaa
