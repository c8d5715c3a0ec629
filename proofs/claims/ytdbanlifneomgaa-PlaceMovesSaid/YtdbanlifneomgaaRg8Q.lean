import Derived.Test.YtdbanlifneomgaaRm8Q
/- Package tree's between, Range. -/
set_option linter.unusedVariables false
namespace Go.Proofs.Ytdbanlifneomgaa
open Go.RowKit

/-- A row of pairs, and no error. -/
def RngS (w : World) (r : Pairs) (e : Ending) (w' : World) : Prop :=
  ∃ v, e = .returned (.tuple #[v, .int .i64 0]) ∧ w'.ownsRow w.heap.size 50 2 v r.length (cellsP r) ∧ Fits r ∧ KeptIn (· < w.heap.size) w w'


/-- What stands at the loops. -/
structure RgF (w V0 : World) (x y p g n cg : Nat) (root : Bool) (lv : Int) (lo hi : Nat) (L : Int) (ps : Pairs) : Prop where
  lead : BoxD x p root lv lo hi V0
  leaf : BoxL y L (some ⟨g, 0, none⟩) n cg V0
  isps : IsPs V0 (some ⟨g, 0, none⟩) ps
  kept : KeptIn (· < w.heap.size) w V0
  len : ps.length = n
theorem RgF.old {w V V' : World} {x y p g n cg : Nat} {root : Bool} {lv : Int} {lo hi : Nat} {L : Int} {ps : Pairs} (h : RgF w V x y p g n cg root lv lo hi L ps) (hk : KeptIn (· < V.heap.size) V V') : RgF w V' x y p g n cg root lv lo hi L ps :=
  ⟨h.lead.kept hk h.lead.lt, h.leaf.kept hk h.leaf.lt, h.isps.old hk, h.kept.go hk, h.len⟩

theorem rg_bnd (j fr n : Nat) (h : j < n) (hn : n ≤ 15) : (j - fr) + 1 ≤ maxLen ∧ (j - fr + 1) * 16 ≤ 140737488355328 := by
  refine ⟨?_, by omega⟩
  unfold maxLen
  omega
theorem psG {W : World} {g : Nat} {ps : Pairs} (h : IsPs W (some ⟨g, 0, none⟩) ps) {j : Nat} (hj : j < ps.length) : W.cell? ⟨g, j * 2, none⟩ = some (.int .u64 (keyAt ps j : Int)) ∧ W.cell? ⟨g, j * 2 + 1, none⟩ = some (.int .u64 (valAt ps j : Int)) := by
  obtain ⟨b', off', e, hb, hc⟩ := h.cells (by omega)
  simp only [Option.some.injEq, Addr.mk.injEq, and_true] at e
  obtain ⟨rfl, rfl⟩ := e
  have := hc j hj
  rw [Nat.zero_add] at this
  exact this

theorem drop_take_succ (ps : Pairs) (f j : Nat) (h1 : f ≤ j) (h2 : j < ps.length) : (ps.take (j + 1)).drop f = (ps.take j).drop f ++ [(keyAt ps j, valAt ps j)] := by
  rw [List.take_add_one, List.drop_append_of_le_length (by rw [List.length_take]; omega)]
  congr 1
  rw [keyAt_get h2, valAt_get h2, List.getElem?_eq_getElem h2]
  rfl

/-- What stands in a leaf's loop. -/
def RgJ (V1 : World) (fr n : Nat) (ps : Pairs) (high j : Nat) (v0 : Value) (W : World) : Prop :=
  fr ≤ j ∧ j ≤ n ∧ (∀ i, fr ≤ i → i < j → keyAt ps i ≤ high) ∧ W.ownsRow V1.heap.size 50 2 v0 (j - fr) (cellsP ((ps.take j).drop fr)) ∧ KeptIn (· < V1.heap.size) V1 W
theorem RgJ.next {V1 W w8 : World} {fr n high j kk vv : Nat} {ps : Pairs} {v0 v' : Value} (h : RgJ V1 fr n ps high j v0 W) (hlt : j < n) (hl : ps.length = n) (hk : keyAt ps j = kk) (hv : valAt ps j = vv) (hle : kk ≤ high)
    (hown : w8.ownsRow V1.heap.size 50 2 v' (j - fr + 1) (cellsP ((ps.take j).drop fr) ++ [.int .u64 (kk : Int), .int .u64 (vv : Int)]))
    (hgrow : (W.alloc (.cells #[.int .u64 (kk : Int), .int .u64 (vv : Int)] 50)).grownBy w8 v0.ownBlock) : RgJ V1 fr n ps high (j + 1) v' w8 := by
  obtain ⟨j1, j2, j3, hrow, hkW⟩ := h
  have hka : KeptIn (· < W.heap.size) W (W.alloc (.cells #[.int .u64 (kk : Int), .int .u64 (vv : Int)] 50)) := (KeptIn.refl _ W).alloc (fun _ h => h) _
  refine ⟨by omega, hlt, fun i h1 h2 => ?_, ?_, ?_⟩
  · rcases Nat.lt_or_ge i j with h3 | h3
    · exact j3 i h1 h3
    · obtain rfl : i = j := by omega
      rw [hk]; exact hle
  · rw [drop_take_succ ps fr j j1 (by omega), hk, hv, cellsP_append, show j + 1 - fr = j - fr + 1 by omega]
    exact hown
  · exact (hkW.go hka).grown (fun k hk => hk) hgrow (fun g e => Nat.not_lt.2 (rowS_lt hrow g e).1)

theorem RgJ.fin {w V1 W : World} {fr n low high j : Nat} {ps R : Pairs} {v0 : Value} (h : RgJ V1 fr n ps high j v0 W) (hs : Srt ps) (hl : ps.length = n) (hfr : belowK ps low = fr) (hR : rng low high ps = R) (hend : j < n → high < keyAt ps j) (hf : Fits ps) (hw : w.heap.size ≤ V1.heap.size) (hk : KeptIn (· < w.heap.size) w W) :
    RngS w R (.returned (.tuple #[v0, .int .i64 0])) W := by
  obtain ⟨j1, j2, j3, hrow, hkW⟩ := h
  subst hfr
  have e := rng_leaf hs low high j j1 (by omega) j3 (fun h => hend (by omega))
  rw [hR] at e
  have el : R.length = j - belowK ps low := by rw [e, List.length_drop, List.length_take]; omega
  refine ⟨v0, rfl, ?_, fun p hp => hf p (by rw [e] at hp; exact List.mem_of_mem_take (List.mem_of_mem_drop hp)), hk⟩
  rw [el, e]
  exact row_weaken hrow hw

theorem rg_gt {kk high : Nat} (h : ¬ kk ≤ high) : ¬ ((kk : Int) ≤ (high : Int)) ∧ (high : Int) < (kk : Int) := by omega
theorem rng_len (low high : Nat) (qs : Pairs) : (rng low high qs).length ≤ qs.length := List.length_filter_le _ _

/-- What stands in an inner node's loop. -/
def RgK (N : List Nd) (l : Nat) (V1 : World) (n : Nat) (ps qs : Pairs) (low high j : Nat) (v0 : Value) (W : World) : Prop :=
  j ≤ n ∧ KeptIn (· < V1.heap.size) V1 W ∧ ∃ qa qb ga gb, qs = qa ++ qb ∧ Kids (Snd N l) (ps.take j) qa ga ∧ Kids (Snd N l) (ps.drop j) qb gb ∧ W.ownsRow V1.heap.size 50 2 v0 (rng low high qa).length (cellsP (rng low high qa)) ∧ Fits (rng low high qa)
theorem RgK.start {N : List Nd} {root : Bool} {lv : Int} {lo hi l p : Nat} {ps qs : Pairs} {g0 : List Nat} (hS : SndL N root lv lo hi (l + 1) p ps qs g0) (V1 : World) (n low high : Nat) (hn : ps.length = n) (h0 : 0 < ps.length) : RgK N l V1 n ps qs low high (kidOf ps low) (.slice none 0 0) V1 := by
  have hlt := kidOf_lt ps low h0
  have hb : Kids (Snd N l) ps qs g0 := hS.body
  have hps : Srt ps := hb.srt hS.srt
  have hb2 : Kids (Snd N l) (ps.take (kidOf ps low) ++ ps.drop (kidOf ps low)) qs g0 := by rw [List.take_append_drop]; exact hb
  obtain ⟨qa, qb, ga, gb, e, eg, ka, kb⟩ := hb2.split
  have hr : rng low high qa = [] := rng_before hS.srt h0 hps e ka kb
  refine ⟨by omega, KeptIn.refl _ _, qa, qb, ga, gb, e, ka, kb, ?_, ?_⟩
  · rw [hr]; exact ⟨rfl, .inl ⟨rfl, rfl⟩⟩
  · rw [hr]; intro p hp; cases hp
theorem RgK.kid {N : List Nd} {root : Bool} {lv : Int} {lo hi l p n low high j : Nat} {ps qs : Pairs} {g0 : List Nat} {V1 W : World} {v0 : Value} (h : RgK N l V1 n ps qs low high j v0 W) (hS : SndL N root lv lo hi (l + 1) p ps qs g0) (hl : l + 1 ≤ 7) (hN : N.length ≤ 511) (hn : ps.length = n) (hj : j < n) :
    ∃ m D ps' q2 g', W.ownsRow V1.heap.size 50 2 v0 m (cellsP D) ∧ SndL N false (l : Int) (keyAt ps j) (highOf ps j hi) l (valAt ps j) ps' q2 g' ∧ ps'.length ≤ 15 ∧ q2.length ≤ qs.length ∧ m + (rng low high q2).length ≤ qs.length ∧ KeptIn (· < V1.heap.size) V1 W ∧
      ∀ v' w8, w8.ownsRow V1.heap.size 50 2 v' (m + (rng low high q2).length) (cellsP D ++ cellsP (rng low high q2)) → Fits (rng low high q2) → KeptIn (· < V1.heap.size) V1 w8 → RgK N l V1 n ps qs low high (j + 1) v' w8 := by
  obtain ⟨h1, h2, qa, qb, ga, gb, e, ka, kb, hrow, hfit⟩ := h
  have hjp : j < ps.length := by omega
  have ed : ps.drop j = (keyAt ps j, valAt ps j) :: ps.drop (j + 1) := by
    rw [List.drop_eq_getElem_cons hjp, keyAt_get hjp, valAt_get hjp]
  rw [ed] at kb
  obtain ⟨q2, q3, g2, g3, e2, eg2, s1, s2, s3, k3⟩ := kb
  obtain ⟨ps', g', eg', hc, hc15⟩ := hS.kidAt hl hN j hjp (q1 := qa) (q2 := q2) (q3 := q3) (by rw [e, e2, List.append_assoc]) s1 s2 s3 k3
  have hlen : qs.length = qa.length + (q2.length + q3.length) := by rw [e, e2, List.length_append, List.length_append]
  have r1 := rng_len low high qa
  have r2 := rng_len low high q2
  refine ⟨(rng low high qa).length, rng low high qa, ps', q2, g', hrow, hc, hc15, by omega, by omega, h2, fun v' w8 hr hf hk => ⟨by omega, hk, qa ++ q2, q3, ga ++ g2, g3, by rw [e, e2, List.append_assoc], ?_, k3, ?_, ?_⟩⟩
  · have : ps.take (j + 1) = ps.take j ++ [(keyAt ps j, valAt ps j)] := by
      rw [List.take_add_one, List.getElem?_eq_getElem hjp, keyAt_get hjp, valAt_get hjp]; rfl
    rw [this]
    exact ka.append ⟨q2, [], g2, [], by simp, by simp, s1, s2, s3, rfl, rfl⟩
  · rw [rng_append, List.length_append, cellsP_append]; exact hr
  · rw [rng_append]; intro p hp; rcases List.mem_append.1 hp with hp | hp
    · exact hfit p hp
    · exact hf p hp
theorem RgK.fin {N : List Nd} {w V1 W : World} {l n low high j : Nat} {ps qs R : Pairs} {v0 : Value} (h : RgK N l V1 n ps qs low high j v0 W) (hs : Srt qs) (hl : ps.length = n) (hR : rng low high qs = R) (hend : j < n → high < keyAt ps j) (hw : w.heap.size ≤ V1.heap.size) (hk : KeptIn (· < w.heap.size) w W) :
    RngS w R (.returned (.tuple #[v0, .int .i64 0])) W := by
  obtain ⟨h1, h2, qa, qb, ga, gb, e, ka, kb, hrow, hfit⟩ := h
  have r := rng_behind (ga := []) (low := low) hs e kb (fun h => hend (by omega))
  rw [e, rng_append, r, List.append_nil] at hR
  subst hR
  exact ⟨v0, rfl, row_weaken hrow hw, hfit, hk⟩
theorem row_news {W : World} {B cap : Nat} {ad : Addr} {l : Pairs} (h : W.ownsRow B 50 2 (.slice (some ad) l.length cap) l.length (cellsP l)) (hf : Fits l) : ∀ k u, (cellsP l)[k]? = some u → W.cell? (ad.add k) = some u := by
  rcases Nat.eq_zero_or_pos l.length with h0 | h0
  · intro k u hu
    rw [List.length_eq_zero_iff.1 h0] at hu
    simp [cellsP] at hu
  · exact psNews (row_IsPs h hf) h0
theorem rg_big (m k q : Nat) (h : m + k ≤ q) (hq : q ≤ 1000000) : m + k ≤ maxLen ∧ (m + k) * 16 ≤ 140737488355328 := by
  refine ⟨?_, by omega⟩
  unfold maxLen
  omega
theorem nil_row {W : World} {B c : Nat} {l : Pairs} {a : Option Addr} (h : W.ownsRow B 50 2 (.slice a l.length c) l.length (cellsP l)) : (a = none ∧ c = 0 ∧ l = []) ∨ ∃ g, a = some ⟨g, 0, none⟩ := by
  rcases h.2 with ⟨e, hx⟩ | ⟨g1, cap1, cur, e, _⟩
  · have := cellsP_length l
    rw [hx] at this
    simp only [Value.slice.injEq] at e
    exact .inl ⟨e.1, e.2.2, List.length_eq_zero_iff.1 (by simp at this; omega)⟩
  · simp only [Value.slice.injEq] at e
    exact .inr ⟨g1, e.1⟩
/-- An append of pairs, be they none or some. -/
theorem append_row {w : World} {ops : Array Oper} {rest : List Oper} {o : Oper} {a : Act} {Q : Exit → Act → World → Prop} (hgd : o.guard = none) (s x : Operand)
    (ho : o.op = .call { callee := .builtin .append, args := #[s, x], argTypes := #[25, 25] })
    (base : Nat) (v : Value) (n k : Nat) (xs : List Value) (hs : a.eval s = v) (hown : w.ownsRow base 50 2 v n xs) (a9 : Option Addr) (c9 : Nat) (r2 : Pairs) (hx : a.eval x = .slice a9 k c9) (B3 : Nat) (hk : r2.length = k)
    (hrow : w.ownsRow B3 50 2 (.slice a9 r2.length c9) r2.length (cellsP r2)) (hf : Fits r2) (h63 : n + k ≤ maxLen) (hby : (n + k) * 16 ≤ 140737488355328) (hbase : base ≤ w.heap.size)
    (h : ∀ v' w', w'.ownsRow base 50 2 v' (n + k) (xs ++ cellsP r2) → w.grownBy w' v.ownBlock → wpList Try.prog ops Q rest (a.put o.dst v') w') : wpList Try.prog ops Q (o :: rest) a w := by
  obtain ⟨ii, hii, hz0, hz1, hz2⟩ := info_parts infoPair
  rcases nil_row hrow with ⟨rfl, rfl, rfl⟩ | ⟨g9, rfl⟩
  · obtain rfl : k = 0 := by simpa using hk.symm
    exact wpList_append_own_none hgd s x 25 ho base 50 ii 2 Try.underlying25 hii v n xs hs hown hx (h v w (by simpa [cellsP] using hown) ⟨rfl, rfl, rfl, Nat.le_refl _, fun _ _ _ => rfl⟩)
  · exact wpList_append_own _ hgd s x 25 ho base 50 ii _ 2 16 Try.underlying25 hii hz0 hz1 hz2 rfl (by decide) v n xs hs hown ⟨g9, 0, none⟩ k c9 (cellsP r2) hx (by rw [cellsP_length, hk]) (row_news hrow hf) (cellsP_one r2) h63 hby hbase fun v' w' h1 h2 _ => h v' w' h1 h2
/-- A part of the answer, laid behind. -/
theorem rg_lay {V1 W0 W w8 : World} {m : Nat} {D : Pairs} {v0 : Value} (hrow : W0.ownsRow V1.heap.size 50 2 v0 m (cellsP D)) (hk : KeptIn (· < V1.heap.size) V1 W) (hg : W.grownBy w8 v0.ownBlock) : KeptIn (· < V1.heap.size) V1 w8 :=
  hk.grown (fun _ h => h) hg fun g' e => Nat.not_lt.2 (rowS_lt hrow g' e).1

set_option maxRecDepth 100000 in
set_option maxHeartbeats 4000000 in
theorem trBetween {N : List Nd} (hN : N.length ≤ 511) (s room low high : Nat) (hlow : low < 18446744073709551616) (hhigh : high < 18446744073709551616) : ∀ {l : Nat} {root : Bool} {lv : Int} {lo hi p : Nat} {ps qs : Pairs} {g0 : List Nat} {w : World} {D : Nat → Prop}, IsSh w s room N D → SndL N root lv lo hi l p ps qs g0 → l ≤ 7 → ps.length ≤ 15 → qs.length ≤ 1000000 → hi < 18446744073709551616 →
    Calls Try.prog 41 #[pgV s, leadV p root lv lo hi, .int .u64 (low : Int), .int .u64 (high : Int)] w (RngS w (rng low high qs)) := by
  intro l
  induction l with
  | zero =>
    intro root lv lo hi p ps qs g0 w D h hS hl7 h15 hql hhi
    obtain ⟨hb1, hb2⟩ := hS.body
    subst hb1 hb2
    have hsrt := hS.srt
    obtain ⟨ix, hix, hqi, hni⟩ := nodeOf_at hS.node
    obtain ⟨W, hW⟩ : ∃ W, w.alloc (.cells #[.int .i64 (p : Int), .bool root, .int .i64 lv, .int .u64 (lo : Int), .int .u64 (hi : Int)] 118) = W := ⟨_, rfl⟩
    have hkW : KeptIn (· < w.heap.size) w W := by rw [← hW]; exact (KeptIn.refl _ w).alloc (fun _ h => h) _
    have hbd : BoxD w.heap.size p root lv lo hi W := by rw [← hW]; exact BoxD.new w p root lv lo hi
    have CL := trLeadRead (h.old hkW) ix hix root lv lo hi (by rw [hni]; exact hS.fit)
    rw [hqi, hni] at CL
    obtain ⟨n, hn⟩ : ∃ n, ps.length = n := ⟨_, rfl⟩
    obtain ⟨R, hR⟩ : ∃ R, rng low high ps = R := ⟨_, rfl⟩
    have HC := Lib.hid (Calls.mono CL (R' := fun e w' => ∃ g cg, e = .returned (.tuple #[.agg #[.int .i64 0, .slice (some ⟨g, 0, none⟩) n cg], .int .i64 0]) ∧ IsPs w' (some ⟨g, 0, none⟩) ps ∧ KeptIn (· < W.heap.size) W w') fun e w' ⟨g, cg, h1, h2, _, h3, _⟩ => ⟨g, cg, by rw [← hn]; exact h1, h2, h3⟩)
    have d0 := hbd.c0
    have d1 := hbd.c1
    have d2 := hbd.c2
    have d3 := hbd.c3
    have d4 := hbd.c4
    have HB := Lib.hid (And.intro hbd hkW)
    have HS := Lib.hid (And.intro hsrt (And.intro hn (And.intro hR (And.intro h15 hix))))
    rw [hR]
    obtain ⟨x, hx⟩ : ∃ x, w.heap.size = x := ⟨_, rfl⟩
    have HX := Lib.hid hx
    unfold pgV leadV at *
    clear CL h hS hsrt hn hR hkW hbd hix hqi hni hql
    go_enter Try.func41, Try.ntmps41
    rw [hx] at d0 d1 d2 d3 d4
    go_wp2_with (go_at_call 48; refine HC.out.mono ?_; rintro e V ⟨g, cg, rfl, hps, hkV⟩)
    obtain ⟨V0, hV0⟩ : ∃ V0, V.alloc (.cells #[.int .i64 0, .slice (some ⟨g, 0, none⟩) n cg] 27) = V0 := ⟨_, rfl⟩
    obtain ⟨y, hy⟩ : ∃ y, V.heap.size = y := ⟨_, rfl⟩
    have hkA : KeptIn (· < V.heap.size) V V0 := by rw [← hV0]; exact (KeptIn.refl _ V).alloc (fun _ h => h) _
    have HF : Hid (RgF w V0 x y p g n cg root lv lo hi 0 ps) := Lib.hid ⟨by have := (HB.out.1.kept hkV HB.out.1.lt).kept hkA (Nat.lt_of_lt_of_le HB.out.1.lt hkV.size); rw [HX.out] at this; exact this, by rw [← hV0, ← hy]; exact BoxL.new V _ _ _ _, hps.old hkA, (HB.out.2.go hkV).go hkA, HS.out.2.1⟩
    rw [hV0]
    simp only [hy]
    clear hps hkV hkA hV0 hy HC d0 d1 d2 d3 d4
    have CF := lfFind 0 (some ⟨g, 0, none⟩) cg ps low V0 HF.out.isps ((rises_srt ps).2 HS.out.1) hlow
    obtain ⟨fr, hfr⟩ : ∃ fr, belowK ps low = fr := ⟨_, rfl⟩
    rw [HS.out.2.1, hfr] at CF
    generalize hasK ps low = hb at CF
    unfold leafV at CF
    have HCF := Lib.hid CF
    have HFR := Lib.hid hfr
    have hfn : fr ≤ n := by rw [← hfr, ← HS.out.2.1]; exact List.countP_le_length
    clear CF hfr
    go_wp2_with (go_at_call 58; refine HCF.out.mono ?_; rintro e V1 ⟨rfl, hk1⟩)
    have HV1 := Lib.hid (HF.out.old hk1)
    have HI0 : Hid (RgJ V1 fr n ps high fr (.slice none 0 0) V1) := Lib.hid ⟨Nat.le_refl _, hfn, fun i h1 h2 => absurd h2 (by omega), by
      rw [show (ps.take fr).drop fr = [] by rw [List.drop_eq_nil_iff, List.length_take]; omega, Nat.sub_self]
      exact ⟨rfl, .inl ⟨rfl, rfl⟩⟩, KeptIn.refl _ _⟩
    obtain ⟨ii, hii, hz0, hz1, hz2⟩ := info_parts infoPair
    clear hk1 HCF
    go_wp2_with fail
    go_loopw [12, 15] (fun v i wr => ∃ (j : Nat) (v0 : Value) (W : World), W = wr ∧ v0 = v ∧ i = .int .i64 (j : Int) ∧ Hid (RgJ V1 fr n ps high j v0 W)) (fun _ i _ => n - (intOf i).toNat)
    case atStart => exact ⟨fr, _, _, rfl, rfl, rfl, HI0⟩
    case round =>
      obtain ⟨j, v0, W, rfl, rfl, rfl, HJ⟩ := hrel
      clear HI0
      obtain ⟨j1, j2, j3, hrow, hkW⟩ := HJ.out
      have HW := Lib.hid (HV1.out.old hkW)
      have y0 := HW.out.leaf.c1
      have h15 := HS.out.2.2.2.1
      have hn15 : n ≤ 15 := by rw [← HS.out.2.1]; exact h15
      have hbase : w.heap.size ≤ W.heap.size := HW.out.kept.size
      have hfit : Fits ps := HW.out.isps.fits
      by_cases hlt : j < n
      · obtain ⟨t1, t2, t3, t4⟩ := rg_idx j n hlt (by omega)
        have HT3 := Lib.hid t3
        clear t3
        have hjl : j < ps.length := by rw [HS.out.2.1]; exact hlt
        obtain ⟨c1, c2⟩ := psG HW.out.isps hjl
        obtain ⟨kk, hkk⟩ : ∃ kk, keyAt ps j = kk := ⟨_, rfl⟩
        obtain ⟨vv, hvv⟩ : ∃ vv, valAt ps j = vv := ⟨_, rfl⟩
        rw [hkk] at c1
        rw [hvv] at c2
        have HKV := Lib.hid (And.intro hkk (And.intro hvv hjl))
        clear h15
        by_cases hle : kk ≤ high
        · have u1 : (kk : Int) ≤ (high : Int) := by omega
          have HROW := Lib.hid hrow
          obtain ⟨hb1, hb2⟩ := rg_bnd j fr n hlt hn15
          clear hkk hvv hrow
          go_wp2_with (at_builtin; refine wpList_append_own _ rfl _ _ 25 rfl V1.heap.size 50 ii _ 2 16 Try.underlying25 hii hz0 hz1 hz2 rfl (by decide) _ _ _ rfl (HROW.out.alloc _) ⟨W.heap.size, 0, none⟩ 1 1 [.int .u64 (kk : Int), .int .u64 (vv : Int)] rfl rfl (World.news_of_block (cs := #[.int .u64 (kk : Int), .int .u64 (vv : Int)]) (t := 50) (fr := (0, 0)) (heap_alloc_new W _)) (by simp [Value.oneCell']) hb1 hb2 (by rw [World.size_alloc]; exact Nat.le_succ_of_le hkW.size) ?_)
          intro v' w8 hown hgrow hx8
          clear hx8
          have HO := Lib.hid (HJ.out.next hlt HS.out.2.1 HKV.out.1 HKV.out.2.1 hle hown hgrow)
          clear hown hgrow j3 hkW hb1 hb2 u1 c1 c2 hfit hbase y0 hjl t1 t2 t4 HJ HROW
          go_wp2_with fail
          go_roundw
          case rel => exact ⟨j + 1, _, _, rfl, rfl, congrArg (Value.int .i64) (rg_succ j), HO⟩
          case measure => simp only [intOf]; exact rg_meas j n hlt
        · obtain ⟨u1, u2⟩ := rg_gt hle
          have HE : Hid (RngS w R (.returned (.tuple #[v0, .int .i64 0])) W) := Lib.hid (HJ.out.fin HS.out.1 HS.out.2.1 HFR.out HS.out.2.2.1 (fun _ => by rw [HKV.out.1]; exact Nat.not_le.1 hle) HW.out.isps.fits HV1.out.kept.size HW.out.kept)
          clear HJ hkk hvv hrow hkW
          go_wp2_with fail
          go_ret2
          exact HE.out
      · obtain ⟨u1, u2⟩ := rg_ge hlt
        have HE : Hid (RngS w R (.returned (.tuple #[v0, .int .i64 0])) W) := Lib.hid (HJ.out.fin HS.out.1 HS.out.2.1 HFR.out HS.out.2.2.1 (fun h => absurd h hlt) HW.out.isps.fits HV1.out.kept.size HW.out.kept)
        clear HJ hrow hkW
        go_wp2_with fail
        go_ret2
        exact HE.out
  | succ l ih =>
    intro root lv lo hi p ps qs g0 w D h hS hl7 h15 hql hhi
    obtain ⟨hgood, hpos⟩ := fit_good' hS.fit
    obtain ⟨ix, hix, hqi, hni⟩ := nodeOf_at hS.node
    obtain ⟨W, hW⟩ : ∃ W, w.alloc (.cells #[.int .i64 (p : Int), .bool root, .int .i64 lv, .int .u64 (lo : Int), .int .u64 (hi : Int)] 118) = W := ⟨_, rfl⟩
    have hkW : KeptIn (· < w.heap.size) w W := by rw [← hW]; exact (KeptIn.refl _ w).alloc (fun _ h => h) _
    have hbd : BoxD w.heap.size p root lv lo hi W := by rw [← hW]; exact BoxD.new w p root lv lo hi
    have CL := trLeadRead (h.old hkW) ix hix root lv lo hi (by rw [hni]; exact hS.fit)
    rw [hqi, hni] at CL
    have hval := good_vals hgood (by omega)
    have CT : ∀ (j g cg : Nat) (W : World), j < ps.length → IsPs W (some ⟨g, 0, none⟩) ps → Calls Try.prog 51 #[leafV ((l + 1 : Nat) : Int) (some ⟨g, 0, none⟩) ps.length cg, .int .i64 (j : Int), .int .u64 (hi : Int)] W fun e w' => e = .returned (leadV (valAt ps j) false (l : Int) (keyAt ps j) (highOf ps j hi)) ∧ KeptIn (· < W.heap.size) W w' := by
      intro j g cg W hj hp
      have := trToChild (l + 1) (some ⟨g, 0, none⟩) cg ps j hi W hp (good_rises hgood) hj (by omega) ⟨by omega, hl7⟩ (hval j hj).2
      rw [show ((l + 1 : Nat) : Int) - 1 = (l : Int) by omega] at this
      exact this
    have CF : ∀ (g cg : Nat) (W : World), IsPs W (some ⟨g, 0, none⟩) ps → Calls Try.prog 50 #[leafV ((l + 1 : Nat) : Int) (some ⟨g, 0, none⟩) ps.length cg, .int .u64 (low : Int)] W fun e w' => e = .returned (.int .i64 (kidOf ps low : Int)) ∧ KeptIn (· < W.heap.size) W w' :=
      fun g cg W hp => trChildFor ((l + 1 : Nat) : Int) (some ⟨g, 0, none⟩) cg ps low W hp (good_rises hgood)
    obtain ⟨n, hn⟩ : ∃ n, ps.length = n := ⟨_, rfl⟩
    obtain ⟨R, hR⟩ : ∃ R, rng low high qs = R := ⟨_, rfl⟩
    have z0 : (((l + 1 : Nat) : Int) == 0) = false := by rw [beq_eq_false_iff_ne]; omega
    have z1 : ¬ ((l + 1 : Nat) : Int) = 0 := by omega
    obtain ⟨LV, hLV⟩ : ∃ LV : Int, ((l + 1 : Nat) : Int) = LV := ⟨_, rfl⟩
    have HC := Lib.hid (Calls.mono CL (R' := fun e w' => ∃ g cg, e = .returned (.tuple #[.agg #[.int .i64 LV, .slice (some ⟨g, 0, none⟩) n cg], .int .i64 0]) ∧ IsPs w' (some ⟨g, 0, none⟩) ps ∧ KeptIn (· < W.heap.size) W w') fun e w' ⟨g, cg, h1, h2, _, h3, _⟩ => ⟨g, cg, by rw [← hn, ← hLV]; exact h1, h2, h3⟩)
    rw [hLV] at z0 z1 CT CF
    rw [hn] at CT CF hpos
    have HCT := Lib.hid CT
    have HCF := Lib.hid CF
    have d0 := hbd.c0
    have d1 := hbd.c1
    have d2 := hbd.c2
    have d3 := hbd.c3
    have d4 := hbd.c4
    have HB := Lib.hid (And.intro hbd hkW)
    have HS := Lib.hid (And.intro hS.srt (And.intro hn (And.intro hR (And.intro h15 (And.intro hS (And.intro h hhi))))))
    rw [hR]
    obtain ⟨x, hx⟩ : ∃ x, w.heap.size = x := ⟨_, rfl⟩
    have HX := Lib.hid hx
    unfold pgV leadV leafV at *
    have hn15 : n ≤ 15 := by rw [← hn]; exact h15
    clear CL CT CF h hS hn hR hkW hbd hix hqi hni hgood hval hLV
    go_enter Try.func41, Try.ntmps41
    rw [hx] at d0 d1 d2 d3 d4
    go_wp2_with (go_at_call 48; refine HC.out.mono ?_; rintro e V ⟨g, cg, rfl, hps, hkV⟩)
    obtain ⟨V0, hV0⟩ : ∃ V0, V.alloc (.cells #[.int .i64 LV, .slice (some ⟨g, 0, none⟩) n cg] 27) = V0 := ⟨_, rfl⟩
    obtain ⟨y, hy⟩ : ∃ y, V.heap.size = y := ⟨_, rfl⟩
    have hkA : KeptIn (· < V.heap.size) V V0 := by rw [← hV0]; exact (KeptIn.refl _ V).alloc (fun _ h => h) _
    have HF : Hid (RgF w V0 x y p g n cg root lv lo hi LV ps) := Lib.hid ⟨by have := (HB.out.1.kept hkV HB.out.1.lt).kept hkA (Nat.lt_of_lt_of_le HB.out.1.lt hkV.size); rw [HX.out] at this; exact this, by rw [← hV0, ← hy]; exact BoxL.new V _ _ _ _, hps.old hkA, (HB.out.2.go hkV).go hkA, HS.out.2.1⟩
    rw [hV0]
    simp only [hy]
    clear hps hkV hkA hV0 hy HC d0 d1 d2 d3 d4
    clear z1
    have HC2 := Lib.hid (HCF.out g cg V0 HF.out.isps)
    have HK := Lib.hid fun V1 => RgK.start HS.out.2.2.2.2.1 V1 n low high HS.out.2.1 (by rw [HS.out.2.1]; exact hpos)
    generalize kidOf ps low = fr at HC2 HK
    clear HCF
    go_wp2_with (go_at_call 50; refine HC2.out.mono ?_; rintro e V1 ⟨rfl, hk1⟩)
    have HV1 := Lib.hid (HF.out.old hk1)
    have HI0 := Lib.hid (HK.out V1)
    obtain ⟨ii, hii, hz0, hz1, hz2⟩ := info_parts infoPair
    clear hk1 HC2 HK
    go_wp2_with fail
    go_loopw [12, 16] (fun v i wr => ∃ (j : Nat) (v0 : Value) (W : World), W = wr ∧ v0 = v ∧ i = .int .i64 (j : Int) ∧ Hid (RgK N l V1 n ps qs low high j v0 W)) (fun _ i _ => n - (intOf i).toNat)
    case atStart => exact ⟨fr, _, _, rfl, rfl, rfl, HI0⟩
    case round =>
      obtain ⟨j, v0, W, rfl, rfl, rfl, HJ⟩ := hrel
      clear HI0
      have HW := Lib.hid (HV1.out.old HJ.out.2.1)
      have y0 := HW.out.leaf.c0
      have y1 := HW.out.leaf.c1
      have y2 := HW.out.lead.c4
      by_cases hlt : j < n
      · obtain ⟨t1, t2, t3, t4⟩ := rg_idx j n hlt (by omega)
        clear t3
        have hjl : j < ps.length := by rw [HS.out.2.1]; exact hlt
        obtain ⟨c1, c2⟩ := psG HW.out.isps hjl
        have HCH := Lib.hid (HCT.out j g cg W hlt HW.out.isps)
        obtain ⟨m, D, ps', q2, g', hrow, hkid, hk15, hq1, hq2, hkV, hnext⟩ := HJ.out.kid HS.out.2.2.2.2.1 hl7 hN HS.out.2.1 hlt
        obtain ⟨a0, c0, rfl, hc0⟩ := row_slice hrow
        have hhi2 := highOf_lt ps j hi HW.out.isps.fits HS.out.2.2.2.2.2.2
        have HG : Hid (∀ V2, KeptIn (· < W.heap.size) W V2 → Calls Try.prog 41 #[.iface 28 (.pointer (some ⟨s, 0, none⟩)), .agg #[.int .i64 (valAt ps j : Int), .bool false, .int .i64 (l : Int), .int .u64 (keyAt ps j : Int), .int .u64 (highOf ps j hi : Int)], .int .u64 (low : Int), .int .u64 (high : Int)] V2 (RngS V2 (rng low high q2))) := Lib.hid fun V2 hk => by
          have := ih (HS.out.2.2.2.2.2.1.old (HW.out.kept.go hk)) hkid (by omega) hk15 (by omega) hhi2
          exact this
        obtain ⟨r2, hr2⟩ : ∃ r2, rng low high q2 = r2 := ⟨_, rfl⟩
        rw [hr2] at HG hq2 hnext
        obtain ⟨kk, hkk⟩ : ∃ kk, keyAt ps j = kk := ⟨_, rfl⟩
        obtain ⟨vv, hvv⟩ : ∃ vv, valAt ps j = vv := ⟨_, rfl⟩
        obtain ⟨hh, hhe⟩ : ∃ hh, highOf ps j hi = hh := ⟨_, rfl⟩
        rw [hkk, hvv, hhe] at HG HCH
        rw [hkk] at c1
        have HKV := Lib.hid hkk
        clear hkk hvv hhe hkid hk15 hhi2 hjl c2
        by_cases hle : kk ≤ high
        · have u1 : (kk : Int) ≤ (high : Int) := by omega
          have HROW := Lib.hid (And.intro hrow (And.intro hkV (And.intro hq2 hnext)))
          clear hrow hkV hq1 hq2 hnext
          go_wp2_with (go_at_call 51; refine HCH.out.mono ?_; rintro e V2 ⟨rfl, hk2⟩)
          have HK2 := Lib.hid hk2
          have HCB := Lib.hid (HG.out V2 hk2)
          clear hk2
          obtain ⟨b1, b2⟩ := rg_big m r2.length qs.length HROW.out.2.2.1 hql
          have HNX := Lib.hid HROW.out.2.2.2
          obtain ⟨k2, hk2⟩ : ∃ k2, r2.length = k2 := ⟨_, rfl⟩
          rw [hk2] at b1 b2 HNX
          have HKL := Lib.hid hk2
          clear hk2
          go_wp2_with (first
            | (go_at_call 41; refine HCB.out.mono ?_; rintro e V3 ⟨v3, rfl, hrow3, hfit3, hk3⟩; obtain ⟨a9, c9, rfl, hc9⟩ := row_slice hrow3; have HR3 := Lib.hid (And.intro hrow3 (And.intro hfit3 (HK2.out.go hk3))); rw [HKL.out]; clear hrow3 hfit3 hk3 hc9)
            | (at_builtin; refine append_row rfl _ _ rfl V1.heap.size _ _ _ _ rfl (row_at HROW.out.1 HR3.out.2.2) _ _ r2 rfl _ HKL.out HR3.out.1 HR3.out.2.1 b1 b2 (Nat.le_trans HROW.out.2.1.size HR3.out.2.2.size) ?_; intro v' w8 hown hgrow; have HO := Lib.hid (HNX.out v' w8 hown HR3.out.2.1 (rg_lay (row_at HROW.out.1 HR3.out.2.2) (HROW.out.2.1.go HR3.out.2.2) hgrow)); clear hown hgrow))
          go_roundw
          case rel => exact ⟨j + 1, _, _, rfl, rfl, congrArg (Value.int .i64) (rg_succ j), HO⟩
          case measure => simp only [intOf]; exact rg_meas j n hlt
        · obtain ⟨u1, u2⟩ := rg_gt hle
          have HE : Hid (RngS w R (.returned (.tuple #[.slice a0 m c0, .int .i64 0])) W) := Lib.hid (HJ.out.fin HS.out.1 HS.out.2.1 HS.out.2.2.1 (fun _ => by rw [HKV.out]; exact Nat.not_le.1 hle) HV1.out.kept.size HW.out.kept)
          clear HJ hrow hkV hnext hq1 hq2
          go_wp2_with fail
          go_ret2
          exact HE.out
      · obtain ⟨u1, u2⟩ := rg_ge hlt
        have HE : Hid (RngS w R (.returned (.tuple #[v0, .int .i64 0])) W) := Lib.hid (HJ.out.fin HS.out.1 HS.out.2.1 HS.out.2.2.1 (fun h => absurd h hlt) HV1.out.kept.size HW.out.kept)
        clear HJ
        go_wp2_with fail
        go_ret2
        exact HE.out

end Go.Proofs.Ytdbanlifneomgaa
