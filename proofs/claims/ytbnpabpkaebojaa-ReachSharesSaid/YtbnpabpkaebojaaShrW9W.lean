import Derived.Test.YtbnpabpkaebojaaTw9W
import Derived.Test.YtbnpabpkaebojaaAw9W
import Derived.Test.YtbnpabpkaebojaaNums
import Derived.Deep.CutBlock
/- ReachShares of layer 9: the walk: it returns true for every input and writes nothing that was there. -/
set_option linter.unusedVariables false
set_option linter.unusedSimpArgs false
namespace Go.Proofs.Ytbnpabpkaebojaa
open Go.RowKit

section
variable {w W : World} {s root next l : Nat} {N : List Nd} {D : Nat → Prop} {g g' : List Nat}
theorem Tw.len (h : Tw w s root next l N D g g' W) : ∀ (i : Nat) (hi : i < N.length), N[i].2.length ≤ 1000 := fun i hi => (h.sh.pos i hi).2
theorem Tw.pages1 (h : Tw w s root next l N D g g' W) : Calls Try.prog 11 #[pgV s, .slice (some ⟨W.heap.size, 0, none⟩) 1 1] (W.alloc (.cells (cellsI [(root : Int)]).toArray 3)) (PzS (W.alloc (.cells (cellsI [(root : Int)]).toArray 3)) (need9 N [(root : Int)] (twP1 g))) :=
  rcPages (rcRefs keysOk h.sh.len h.sh.fits9 h.len (h.sh.old ((KeptIn.refl _ W).alloc (fun _ h => h) _)) (ints_new9 W [(root : Int)] (by simp)) (by simp) h.hG1 _ h.hP1)
theorem Tw.refs2 (h : Tw w s root next l N D g g' W) : Calls Try.prog 10 #[pgV s, .slice (some ⟨W.heap.size, 0, none⟩) 2 2] (W.alloc (.cells (cellsI [(root : Int), (next : Int)]).toArray 3)) (RfS (W.alloc (.cells (cellsI [(root : Int), (next : Int)]).toArray 3)) N [(root : Int), (next : Int)] (twP2 root next g g')) :=
  rcRefs keysOk h.sh.len h.sh.fits9 h.len (h.sh.old ((KeptIn.refl _ W).alloc (fun _ h => h) _)) (ints_new9 W [(root : Int), (next : Int)] (by simp)) (by simp) h.hG2 _ h.hP2
theorem Tw.pages2 (h : Tw w s root next l N D g g' W) : Calls Try.prog 11 #[pgV s, .slice (some ⟨W.heap.size, 0, none⟩) 2 2] (W.alloc (.cells (cellsI [(root : Int), (next : Int)]).toArray 3)) (PzS (W.alloc (.cells (cellsI [(root : Int), (next : Int)]).toArray 3)) (need9 N [(root : Int), (next : Int)] (twP2 root next g g'))) :=
  rcPages h.refs2
end

/-- What stands at the loop: pages and counts. -/
structure Lp (N : List Nd) (C : Int → Nat) (L : List Int) (n2 k0 : Nat) : Prop where
  len : L.length = n2
  n512 : n2 ≤ 512
  srt : L.Pairwise (· < ·)
  dom : ∀ q ∈ L, ∃ i : Nat, q = ((i + 1 : Nat) : Int) ∧ i < N.length
  sum : (L.map C).sum = k0 + (L.map (wl N)).sum
  top : k0 + (L.map (wl N)).sum ≤ 1000000
theorem wl_le9 {N : List Nd} (h : ∀ (i : Nat) (hi : i < N.length), N[i].2.length ≤ 1000) (q : Int) : wl N q ≤ 1000 := by
  unfold wl
  split
  · rename_i l ps hn
    obtain ⟨i, _, hi, e⟩ := nodeOf_mlt hn
    have := h i hi
    rw [List.getElem?_eq_getElem hi] at e
    split
    · omega
    · rw [Option.some.inj e] at this; exact this
  · omega
theorem sum_le9 (L : List Int) (f : Int → Nat) (h : ∀ q, f q ≤ 1000) : (L.map f).sum ≤ 1000 * L.length := by
  induction L with
  | nil => simp
  | cons x L ih => have := h x; simp only [List.map_cons, List.sum_cons, List.length_cons]; omega
theorem Tw.lp {w W : World} {s root next l : Nat} {N : List Nd} {D : Nat → Prop} {g g' : List Nat} {C : Int → Nat} {L : List Int} {n2 k0 : Nat} (h : Tw w s root next l N D g g' W) (hC : cnA N [(root : Int), (next : Int)] (twP2 root next g g') = C) (hL : need9 N [(root : Int), (next : Int)] (twP2 root next g g') = L) (hn : L.length = n2) (hk : (if next = 0 then 1 else 2) = k0) : Lp N C L n2 k0 := by
  have h0 : L.length ≤ 512 := by rw [← hL]; exact upTo_length _ _
  have hs := leads9 h.sh.len h.hG2 h.hP2
  have hr0 := h.r0
  have hc : [(root : Int), (next : Int)].countP (fun r => r != 0) = k0 := by
    rw [← hk]
    have e1 : ((root : Int) != 0) = true := by rw [bne_iff_ne]; omega
    by_cases e : next = 0
    · subst e; simp [List.countP_cons, e1, hr0]
    · have e2 : ((next : Int) != 0) = true := by rw [bne_iff_ne]; omega
      simp [List.countP_cons, e1, e2, e, hr0]
  rw [hC, hL, hc] at hs
  have h1 := sum_le9 L (wl N) (wl_le9 h.len)
  have hk2 : k0 ≤ 2 := by rw [← hk]; split <;> omega
  refine ⟨hn, by omega, by rw [← hL]; exact upTo_sorted _ _, fun q hq => ?_, hs, by omega⟩
  rw [← hL] at hq
  unfold need9 at hq
  rw [mem_upTo, decide_eq_true_eq, cnA_pos h.sh.len h.hG2 h.hP2] at hq
  obtain ⟨_, _, r, hr, hq⟩ := hq
  obtain ⟨root', l2, qs, g2, e, hT, _, hg⟩ := h.hG2 r hr
  rw [hg] at hq
  obtain ⟨z, hz, e2⟩ := List.mem_map.1 hq
  have := hT.pages z hz
  have e3 : ((z : Nat) : Int) = q := e2
  exact ⟨z - 1, by omega, by omega⟩

/-- What stands in the loop. -/
def Lq (w3 : World) (s : Nat) (N : List Nd) (D : Nat → Prop) (C : Int → Nat) (L : List Int) (a : Option Addr) (k0 j t u : Nat) (X : World) : Prop :=
  t = ((L.take j).map C).sum ∧ u = k0 + ((L.take j).map (wl N)).sum ∧ IsRf X a C L ∧ IsSh X s 511 N D ∧ KeptIn (· < w3.heap.size) w3 X
theorem Lq.old {w3 X X' : World} {s : Nat} {N : List Nd} {D : Nat → Prop} {C : Int → Nat} {L : List Int} {a : Option Addr} {k0 j t u : Nat} (h : Lq w3 s N D C L a k0 j t u X) (hk : KeptIn (· < X.heap.size) X X') : Lq w3 s N D C L a k0 j t u X' :=
  ⟨h.1, h.2.1, h.2.2.1.kept hk fun k h => h, h.2.2.2.1.old hk, h.2.2.2.2.go hk⟩
theorem sum_take9 (L : List Int) (f : Int → Nat) (j : Nat) (hj : j < L.length) : ((L.take (j + 1)).map f).sum = ((L.take j).map f).sum + f L[j] ∧ ((L.take (j + 1)).map f).sum ≤ (L.map f).sum := by
  have htk : L.take (j + 1) = L.take j ++ [L[j]] := by rw [List.take_add_one, List.getElem?_eq_getElem hj]; rfl
  refine ⟨by rw [htk, List.map_append, List.sum_append]; simp, ?_⟩
  conv => rhs; rw [← List.take_append_drop (j + 1) L, List.map_append, List.sum_append]
  omega
theorem Lq.step {w3 X : World} {s j t u n2 k0 i l : Nat} {N : List Nd} {D : Nat → Prop} {C : Int → Nat} {L : List Int} {a : Option Addr} {ps : Pairs} (h : Lq w3 s N D C L a k0 j t u X) (hp : Lp N C L n2 k0) (hj : j < L.length) (hq : L[j] = ((i + 1 : Nat) : Int)) (hi : N[i]? = some (l, ps)) :
    (t + C L[j] ≤ 1000000) ∧ (u + (if l = 0 then 0 else ps.length) ≤ 1000000) ∧ ∀ X', KeptIn (· < X.heap.size) X X' → Lq w3 s N D C L a k0 (j + 1) (t + C L[j]) (u + (if l = 0 then 0 else ps.length)) X' := by
  obtain ⟨a1, a2⟩ := sum_take9 L C j hj
  obtain ⟨b1, b2⟩ := sum_take9 L (wl N) j hj
  have hw : wl N L[j] = if l = 0 then 0 else ps.length := by
    rw [hq]
    unfold wl
    rw [show ((i + 1 : Nat) : Int).toNat = i + 1 by omega, mlt_nodeOf hi]
  rw [hw] at b1
  obtain ⟨h1, h2, h3⟩ := h
  have hs := hp.sum
  have ht := hp.top
  refine ⟨by omega, by omega, fun X' hk => ⟨by rw [a1, h1], by rw [b1, h2]; omega, h3.1.kept hk fun k h => h, h3.2.1.old hk, h3.2.2.go hk⟩⟩

theorem shr_num (j k : Nat) (h : k = j + 1) (hj : j < 120) : wrap64 (1 + (j : Int)) = (k : Int) := by unfold wrap64; omega
theorem shr_key (x : Nat) (h : x < 150) : IntKind.u64.wrap (x : Int) = (x : Int) ∧ (x : Int) % 18446744073709551616 = (x : Int) := by
  refine ⟨?_, by omega⟩
  simp [IntKind.wrap, IntKind.signed, IntKind.bits]
  omega
theorem shr_lim (n1 n2 l m1 m2 : Nat) (h1 : n1 ≤ 512) (hl : l ≤ 1) (e1 : m1 = n1 + l) (e2 : m2 = m1 + 4) (h : n2 ≤ n1 + l + 4) : wrap64 ((n1 : Int) + (l : Int)) = (m1 : Int) ∧ wrap64 ((m1 : Int) + 4) = (m2 : Int) ∧ ¬ (m2 : Int) < (n2 : Int) ∧ decide ((m2 : Int) < (n2 : Int)) = false ∧ ¬ m2 < n2 ∧ decide (m2 < n2) = false := by
  refine ⟨by unfold wrap64; omega, by unfold wrap64; omega, by omega, decide_eq_false (by omega), by omega, decide_eq_false (by omega)⟩
theorem shr_add (t c m : Nat) (h : t + c ≤ 1000000) (e : t + c = m) : wrap64 ((t : Int) + (c : Int)) = (m : Int) := by unfold wrap64; omega

theorem shr_prev (j j9 n2 : Nat) (e : j9 + 1 = j) (h : j < n2) (hn : n2 ≤ 512) : wrap64 ((j : Int) - 1) = (j9 : Int) ∧ (0 : Int) < (j : Int) ∧ decide ((0 : Int) < (j : Int)) = true ∧ (0 : Int) ≤ (j9 : Int) ∧ (j9 : Int) < (n2 : Int) ∧ (j : Int) - 1 = (j9 : Int) ∧ wrap64 (j9 : Int) = (j9 : Int) ∧ decide ((0 : Int) ≤ (j9 : Int)) = true ∧ decide ((j9 : Int) < (n2 : Int)) = true ∧ decide (0 < j) = true ∧ 0 < j ∧ j - 1 = j9 := by
  refine ⟨by unfold wrap64; omega, by omega, decide_eq_true (by omega), by omega, by omega, by omega, by unfold wrap64; omega, decide_eq_true (by omega), decide_eq_true (by omega), decide_eq_true (by omega), by omega, by omega⟩
theorem shr_low (lv : Nat) (h : lv = 0) : ¬ (0 : Int) < (lv : Int) ∧ ¬ 0 < lv ∧ decide ((0 : Int) < (lv : Int)) = false ∧ decide (0 < lv) = false := ⟨by omega, by omega, decide_eq_false (by omega), decide_eq_false (by omega)⟩
theorem shr_high (lv : Nat) (h : ¬ lv = 0) : (0 : Int) < (lv : Int) ∧ 0 < lv ∧ decide ((0 : Int) < (lv : Int)) = true ∧ decide (0 < lv) = true := ⟨by omega, by omega, decide_eq_true (by omega), decide_eq_true (by omega)⟩
theorem shr_lt (a b : Int) (h : a < b) : ¬ b ≤ a ∧ decide (b ≤ a) = false ∧ a < b := ⟨by omega, decide_eq_false (by omega), h⟩




set_option maxRecDepth 100000 in
set_option maxHeartbeats 8000000 in
theorem shrW9 (n key : Int) (drop : Bool) (w : World) (wn : (Lit.int .i64 n).wf = true) (wk : (Lit.int .i64 key).wf = true) :
    Calls Try.prog 4 #[.int .i64 n, .int .i64 key, .bool drop] w fun e w' => e = .returned (.bool true) ∧ KeptIn (· < w.heap.size) w w' := by
  obtain ⟨j0, hj0, n1⟩ : ∃ k : Nat, k < 120 ∧ wrap64 ((IntKind.u64.wrap n).tmod 120) = (k : Int) := modWalk n 120 (by decide) (by decide)
  obtain ⟨x, hx, n2⟩ : ∃ k : Nat, k < 150 ∧ wrap64 ((IntKind.u64.wrap key).tmod 150) = (k : Int) := modWalk key 150 (by decide) (by decide)
  obtain ⟨k, hk⟩ : ∃ k, k = j0 + 1 := ⟨_, rfl⟩
  have n3 := shr_num j0 k hk hj0
  have hk120 : k ≤ 120 ∧ 0 < k := by omega
  obtain ⟨x1, x2⟩ := shr_key x hx
  have HKX := Lib.hid (And.intro hk120 hx)
  clear hk hj0 hk120 hx wn wk
  go_enter Try.func4, Try.ntmps4
  go_wp2_with fail
  refine (awake9 w).mono ?_
  rintro e w3 ⟨rfl, k3⟩
  obtain ⟨W1, hW1⟩ : ∃ W1, w3.alloc (.cells #[.slice none 0 0, .int .i64 511] 30) = W1 := ⟨_, rfl⟩
  have ht := tn_new9 w3 511 (by decide) W1 hW1
  obtain ⟨s, hs⟩ : ∃ s, w3.heap.size = s := ⟨_, rfl⟩
  rw [hs] at ht
  have HG := Lib.hid (rcGrown ht k HKX.out.1.1)
  have HK3 := Lib.hid k3
  have HW := Lib.hid (And.intro hW1 hs)
  clear ht hs hW1 k3
  go_wp2_with fail
  rw [HW.out.1]
  simp only [HW.out.2]
  refine HG.out.mono ?_
  rintro e V1 ⟨root, N0, rfl, hk0, hor⟩
  clear HG n1 n3
  rcases hor with ⟨rfl, _⟩ | ⟨h, hl⟩
  · have HE := Lib.hid (HK3.out.go hk0)
    clear hk0
    go_wp2_with fail
    go_ret
    exact ⟨rfl, HE.out⟩
  obtain ⟨l, i, D0, g, ps, hS⟩ := ss_start h (by rw [rowG_length]; exact HKX.out.1.2)
  have HRD := Lib.hid hS.read
  have HS := Lib.hid hS
  have HL1 := Lib.hid hS.l1
  have r1 : ¬ (root : Int) = 0 := by have := hS.r0; omega
  have r2 : ((root : Int) == 0) = false := beq_eq_false_iff_ne.2 r1
  clear h hl hS hk0
  go_wp2_with fail
  refine HRD.out.mono ?_
  clear r1 r2
  rintro e V2 ⟨g0, cg, rfl, hps, hg, hk, hty⟩
  unfold leafV
  obtain ⟨np, hnp⟩ : ∃ np, ps.length = np := ⟨_, rfl⟩
  rw [hnp]
  obtain ⟨U, hU⟩ : ∃ U, V2.alloc (.cells #[.int .i64 (l : Int), .slice (some ⟨g0, 0, none⟩) np cg] 27) = U := ⟨_, rfl⟩
  have hbyU : BoxL V2.heap.size (l : Int) (some ⟨g0, 0, none⟩) np cg U := by rw [← hU]; exact BoxL.new V2 _ _ _ _
  have hSU := (HS.out.old hk).old (show KeptIn (· < V2.heap.size) V2 U by rw [← hU]; exact (KeptIn.refl _ V2).alloc (fun _ h => h) _)
  obtain ⟨y, hy⟩ : ∃ y, V2.heap.size = y := ⟨_, rfl⟩
  rw [hy] at hbyU
  have hys : s < y := by have h1 := HS.out.sh.lt s HS.out.sh.ds; have h2 := hk.size; omega
  have HBY := Lib.hid (And.intro hbyU hys)
  have HSU := Lib.hid hSU
  have HPUT := Lib.hid (twPut hSU.sh hSU.dge hSU.kept hSU.t hSU.nd hSU.r0 hSU.l1 x 1000 (by have := HKX.out.2; omega) (by decide))
  have HDRP := Lib.hid (twDrop hSU.sh hSU.dge hSU.kept hSU.t hSU.nd hSU.r0 hSU.l1 x (by have := HKX.out.2; omega))
  rw [show ((1000 : Nat) : Int) = 1000 from rfl] at HPUT
  unfold pgV at HPUT HDRP
  clear hps hg hk hty hbyU hSU hys hnp HRD HS
  cases drop with
  | true =>
    go_wp2_with fail
    refine HDRP.out.mono ?_
    rintro e V3 ⟨r, er, bb, rfl, hfr, hor⟩
    have hbY := HBY.out.1.kept hfr ⟨HBY.out.1.lt, Nat.ne_of_gt HBY.out.2⟩
    clear HPUT HDRP hfr x1 x2 n2 HSU HBY
    rcases hor with ⟨rfl, hkr⟩ | ⟨rfl, N, D, g', hT⟩
    · have HE := Lib.hid (HK3.out.go hkr)
      clear hkr
      go_wp2_with fail
      go_ret
      exact ⟨rfl, HE.out⟩
    have HT := Lib.hid hT
    have HY := Lib.hid hbY
    have HP1 := Lib.hid hT.pages1
    have hT1 := hT.old ((KeptIn.refl _ V3).alloc (fun _ h => h) (.cells (cellsI [(root : Int)]).toArray 3))
    have HT1 := Lib.hid hT1
    have hY1 := hbY.kept ((KeptIn.refl _ V3).alloc (fun _ h => h) (.cells (cellsI [(root : Int)]).toArray 3)) hbY.lt
    have HY1 := Lib.hid hY1
    simp only [cellsI, List.map_cons, List.map_nil] at HP1 HT1 HY1
    unfold pgV at HP1
    obtain ⟨n1, hn1⟩ : ∃ n1, (need9 N [(root : Int)] (twP1 g)).length = n1 := ⟨_, rfl⟩
    obtain ⟨L, hL⟩ : ∃ L, need9 N [(root : Int), (r : Int)] (twP2 root r g g') = L := ⟨_, rfl⟩
    obtain ⟨C, hC⟩ : ∃ C, cnA N [(root : Int), (r : Int)] (twP2 root r g g') = C := ⟨_, rfl⟩
    obtain ⟨n2, hn2⟩ : ∃ n2, L.length = n2 := ⟨_, rfl⟩
    have hfew := hT.fewer
    rw [hn1, hL, hn2] at hfew
    have hn512 : n1 ≤ 512 := by rw [← hn1]; exact upTo_length _ _
    obtain ⟨m1, hm1⟩ : ∃ m1, m1 = n1 + l := ⟨_, rfl⟩
    obtain ⟨m2, hm2⟩ : ∃ m2, m2 = m1 + 4 := ⟨_, rfl⟩
    have HLIM := Lib.hid (shr_lim n1 n2 l m1 m2 hn512 HL1.out hm1 hm2 hfew)
    have HLPS : Hid (∀ k0, (if r = 0 then 1 else 2) = k0 → Lp N C L n2 k0) := Lib.hid fun k0 hk => hT.lp hC hL hn2 hk
    have HSZ := Lib.hid hT.len
    have HNN := Lib.hid (And.intro hn1 (And.intro hn2 (And.intro hL hC)))
    clear hT hbY hT1 hY1 hn1 hL hC hn2 hfew hn512 hm1 hm2
    go_wp2_with fail
    refine HP1.out.mono ?_
    rintro e V4 ⟨v4, rfl, hrow4, hk4⟩
    obtain ⟨a4, c4, rfl⟩ := row_sliceI hrow4
    rw [HNN.out.1]
    have hT4 := HT1.out.old hk4
    have hY4 := HY1.out.kept hk4 HY1.out.lt
    have HP2 := Lib.hid hT4.pages2
    have HT2 := Lib.hid (hT4.old ((KeptIn.refl _ V4).alloc (fun _ h => h) (.cells (cellsI [(root : Int), (r : Int)]).toArray 3)))
    have HY2 := Lib.hid (hY4.kept ((KeptIn.refl _ V4).alloc (fun _ h => h) (.cells (cellsI [(root : Int), (r : Int)]).toArray 3)) hY4.lt)
    simp only [cellsI, List.map_cons, List.map_nil] at HP2 HT2 HY2
    unfold pgV at HP2
    clear hrow4 hk4 hT4 hY4 HP1 HT1 HY1
    go_wp2_with fail
    refine HP2.out.mono ?_
    rintro e V5 ⟨v5, rfl, hrow5, hk5⟩
    obtain ⟨a5, c5, rfl⟩ := row_sliceI hrow5
    rw [HNN.out.2.2.1, HNN.out.2.1]
    have hT5 := HT2.out.old hk5
    have hY5 := HY2.out.kept hk5 HY2.out.lt
    have HP3 := Lib.hid hT5.refs2
    have HT3 := Lib.hid (hT5.old ((KeptIn.refl _ V5).alloc (fun _ h => h) (.cells (cellsI [(root : Int), (r : Int)]).toArray 3)))
    have HY3 := Lib.hid (hY5.kept ((KeptIn.refl _ V5).alloc (fun _ h => h) (.cells (cellsI [(root : Int), (r : Int)]).toArray 3)) hY5.lt)
    simp only [cellsI, List.map_cons, List.map_nil] at HP3 HT3 HY3
    unfold pgV at HP3
    clear hrow5 hk5 hT5 hY5 HP2 HT2 HY2
    go_wp2_with fail
    refine HP3.out.mono ?_
    rintro e V6 ⟨v6, rfl, hrow6, hk6⟩
    rw [HNN.out.2.2.1, HNN.out.2.2.2] at hrow6
    obtain ⟨a3, c3, rfl⟩ := row_slice9 hrow6
    have hrf := row_IsRf hrow6
    rw [HNN.out.2.1]
    have hT6 := HT3.out.old hk6
    have hY6 := HY3.out.kept hk6 HY3.out.lt
    have y0 := hY6.c0
    obtain ⟨i1, i2, i3, i4, i5, i6⟩ := HLIM.out
    have HX6 := Lib.hid (And.intro hrf (And.intro hT6.sh hT6.kept))
    clear hrow6 hk6 hT6 hY6 hrf HP3 HT3 HY3 HLIM HY
    by_cases hr0 : r = 0
    · subst hr0
      have HLP := Lib.hid (HLPS.out 1 rfl)
      have HX : Hid (Lq w3 s N D C L a3 1 0 0 1 V6) := Lib.hid ⟨rfl, rfl, HX6.out⟩
      clear HX6 HLPS
      go_wp2_with fail
      try simp only [i6]
      clear i1 i2 i3 i4 i5 i6 y0
      go_loopw [20, 21, 22, 23, 24] (fun a b i _ _ wr => ∃ (j t u : Nat) (X : World), X = wr ∧ j ≤ n2 ∧ i = .int .i64 (j : Int) ∧ a = .int .i64 (t : Int) ∧ b = .int .i64 (u : Int) ∧ Hid (Lq w3 s N D C L a3 1 j t u X)) (fun _ _ i _ _ _ => n2 - (RowKit.intOf i).toNat)
      case atStart => exact ⟨0, 0, 1, _, rfl, Nat.zero_le _, rfl, rfl, rfl, HX⟩
      case round =>
        obtain ⟨j, t, u, X, rfl, hj, rfl, rfl, rfl, HJ⟩ := hrel
        clear HX
        have hnI : (n2 : Int) ≤ 512 := by have := HLP.out.n512; omega
        by_cases hlt : j < n2
        · have hjl : j < L.length := by rw [HLP.out.len]; exact hlt
          obtain ⟨i, hqi, hin⟩ := HLP.out.dom _ (List.getElem_mem hjl)
          obtain ⟨nd, hnd⟩ : ∃ nd, N[i]? = some nd := ⟨_, List.getElem?_eq_getElem hin⟩
          obtain ⟨lv, ps⟩ := nd
          obtain ⟨s1, s2, s3⟩ := HJ.out.step HLP.out hjl hqi hnd
          obtain ⟨b1, o1, rfl, hb1, hc1⟩ := HJ.out.2.2.1.cells (by omega)
          obtain ⟨e1, e2⟩ := hc1 j hjl
          obtain ⟨q, hq⟩ : ∃ q, L[j] = q := ⟨_, rfl⟩
          rw [hq] at e1 e2 s1 s3 hqi
          obtain ⟨cq, hcq⟩ : ∃ cq, C q = cq := ⟨_, rfl⟩
          rw [hcq] at e2 s1 s3
          obtain ⟨t2, ht2⟩ : ∃ t2, t + cq = t2 := ⟨_, rfl⟩
          have t1 := shr_add t cq t2 s1 ht2
          rw [ht2] at s3
          have hsz : ps.length ≤ 1000 := by
            have := HSZ.out i hin
            rw [List.getElem?_eq_getElem hin] at hnd
            rw [Option.some.inj hnd] at this
            exact this
          have HRD : Hid (∀ V, IsSh V s 511 N D → Calls Try.prog 14 #[.pointer (some ⟨s, 0, none⟩), .int .i64 q] V (RdS V (lv : Int) ps)) := Lib.hid fun V hV => by
            have := shRead hV i hin
            rw [List.getElem?_eq_getElem hin] at hnd
            rw [Option.some.inj hnd, ← hqi] at this
            exact this
          have HS3 := Lib.hid s3
          have HT := Lib.hid t1
          have d0 : (0 : Int) ≤ (j : Int) := by omega
          have d1 : (j : Int) < (n2 : Int) := by omega
          obtain ⟨np, hnp⟩ : ∃ np, ps.length = np := ⟨_, rfl⟩
          have HNP := Lib.hid hnp
          have HU : Hid (lv ≠ 0 → wrap64 ((u : Int) + (np : Int)) = ((u + np : Nat) : Int)) := Lib.hid fun hl => by
            rw [if_neg hl, hnp] at s2
            unfold wrap64; omega
          by_cases hj0 : j = 0
          · subst hj0
            clear s1 s2 s3 hc1 hqi hnd hb1 hcq ht2 hsz hjl hin hnp hq
            go_wp2_with fail
            go_quiet (fail)
            clear t1 e2
            have HXR := Lib.hid (HRD.out (X.drewN nq) (HJ.out.2.2.2.1.old ((KeptIn.refl _ X).drewN nq)))
            have e9 : (X.drewN nq).cell? ⟨b1, o1, none⟩ = some (.int .i64 q) := by simpa using e1
            go_wp2_with fail
            refine HXR.out.mono ?_
            rintro e V9 ⟨g9, cg9, rfl, hps9, hg9, hk9, hty9⟩
            rw [HNP.out]
            unfold leafV
            obtain ⟨U9, hU9⟩ : ∃ U9, V9.alloc (.cells #[.int .i64 (lv : Int), .slice (some ⟨g9, 0, none⟩) np cg9] 27) = U9 := ⟨_, rfl⟩
            have hby9 : BoxL V9.heap.size (lv : Int) (some ⟨g9, 0, none⟩) np cg9 U9 := by rw [← hU9]; exact BoxL.new V9 _ _ _ _
            have hkU9 : KeptIn (· < X.heap.size) X U9 := by
              rw [← hU9]
              have h1 := ((KeptIn.refl (· < X.heap.size) X).drewN nq).trans hk9
              exact h1.alloc (fun k h => h) _
            obtain ⟨y9, hy9⟩ : ∃ y9, V9.heap.size = y9 := ⟨_, rfl⟩
            rw [hy9] at hby9
            have z0 := hby9.c0
            have z1 := hby9.c1
            have HN9 := Lib.hid (HS3.out U9 hkU9)
            clear hps9 hg9 hk9 hty9 hkU9 hby9 e9 e1
            by_cases hl9 : lv = 0
            · rw [if_pos hl9, Nat.add_zero] at HN9
              obtain ⟨l0, l1, l2, l3⟩ := shr_low lv hl9
              clear hl9
              go_wp2_with fail
              go_roundw
              case rel => exact ⟨_, t2, u, _, rfl, hlt, by go_num, by first | rfl | exact congrArg (Value.int .i64) HT.out, rfl, HN9⟩
              case measure => simp only [RowKit.intOf]; omega
            · rw [if_neg hl9, HNP.out] at HN9
              obtain ⟨l0, l1, l2, l3⟩ := shr_high lv hl9
              have tu := HU.out hl9
              clear hl9
              go_wp2_with fail
              go_roundw
              case rel => exact ⟨_, t2, u + np, _, rfl, hlt, by go_num, by first | rfl | exact congrArg (Value.int .i64) HT.out, by first | rfl | exact congrArg (Value.int .i64) tu, HN9⟩
              case measure => simp only [RowKit.intOf]; omega
          · obtain ⟨j9, hj91⟩ : ∃ j9, j9 + 1 = j := ⟨j - 1, by omega⟩
            have hj9 : j9 < L.length := by omega
            obtain ⟨x1, x2⟩ := hc1 j9 hj9
            have hlt9 : L[j9] < q := by rw [← hq]; exact (List.pairwise_iff_getElem.1 HLP.out.srt) j9 j hj9 hjl (by omega)
            obtain ⟨q9, hq9⟩ : ∃ q9, L[j9] = q9 := ⟨_, rfl⟩
            rw [hq9] at x1 hlt9
            obtain ⟨y1, y2, y3, y4, y5, u1, u2, u3, u4, u5, u6, u7⟩ := shr_prev j j9 n2 hj91 hlt HLP.out.n512
            have x3 : X.cell? ⟨b1, o1 + (j - 1) * 2, none⟩ = some (.int .i64 q9) := by rw [u7]; exact x1
            obtain ⟨y6, y7, y8⟩ := shr_lt q9 q hlt9
            clear s1 s2 s3 hc1 hqi hnd hb1 hcq ht2 hsz hjl hin hnp hq x2 hj9 hlt9 hq9 hj91 hj0
            go_wp2_with fail
            go_quiet (fail)
            clear t1 e2 x1 x3 y1 y2 y3 y4 y5 y6 y7 y8 u1 u2 u3 u4 u5 u6 u7
            have HXR := Lib.hid (HRD.out (X.drewN nq) (HJ.out.2.2.2.1.old ((KeptIn.refl _ X).drewN nq)))
            have e9 : (X.drewN nq).cell? ⟨b1, o1 + j * 2, none⟩ = some (.int .i64 q) := e1
            go_wp2_with fail
            refine HXR.out.mono ?_
            rintro e V9 ⟨g9, cg9, rfl, hps9, hg9, hk9, hty9⟩
            rw [HNP.out]
            unfold leafV
            obtain ⟨U9, hU9⟩ : ∃ U9, V9.alloc (.cells #[.int .i64 (lv : Int), .slice (some ⟨g9, 0, none⟩) np cg9] 27) = U9 := ⟨_, rfl⟩
            have hby9 : BoxL V9.heap.size (lv : Int) (some ⟨g9, 0, none⟩) np cg9 U9 := by rw [← hU9]; exact BoxL.new V9 _ _ _ _
            have hkU9 : KeptIn (· < X.heap.size) X U9 := by
              rw [← hU9]
              have h1 := ((KeptIn.refl (· < X.heap.size) X).drewN nq).trans hk9
              exact h1.alloc (fun k h => h) _
            obtain ⟨y9, hy9⟩ : ∃ y9, V9.heap.size = y9 := ⟨_, rfl⟩
            rw [hy9] at hby9
            have z0 := hby9.c0
            have z1 := hby9.c1
            have HN9 := Lib.hid (HS3.out U9 hkU9)
            clear hps9 hg9 hk9 hty9 hkU9 hby9 e9 e1
            by_cases hl9 : lv = 0
            · rw [if_pos hl9, Nat.add_zero] at HN9
              obtain ⟨l0, l1, l2, l3⟩ := shr_low lv hl9
              clear hl9
              go_wp2_with fail
              go_roundw
              case rel => exact ⟨_, t2, u, _, rfl, hlt, by go_num, by first | rfl | exact congrArg (Value.int .i64) HT.out, rfl, HN9⟩
              case measure => simp only [RowKit.intOf]; omega
            · rw [if_neg hl9, HNP.out] at HN9
              obtain ⟨l0, l1, l2, l3⟩ := shr_high lv hl9
              have tu := HU.out hl9
              clear hl9
              go_wp2_with fail
              go_roundw
              case rel => exact ⟨_, t2, u + np, _, rfl, hlt, by go_num, by first | rfl | exact congrArg (Value.int .i64) HT.out, by first | rfl | exact congrArg (Value.int .i64) tu, HN9⟩
              case measure => simp only [RowKit.intOf]; omega
        · obtain rfl : j = n2 := by omega
          have d1 : ¬ (j : Int) < (j : Int) := by omega
          have htu : t = u := by
            have h1 := HJ.out.1
            have h2 := HJ.out.2.1
            rw [List.take_of_length_le (by rw [HLP.out.len]; exact Nat.le_refl _)] at h1 h2
            rw [h1, h2, HLP.out.sum]
          subst htu
          have HE : Hid (KeptIn (· < w.heap.size) w X) := Lib.hid (HK3.out.go HJ.out.2.2.2.2)
          clear HJ hlt hj
          go_wp2_with fail
          go_ret
          exact ⟨rfl, HE.out⟩
    · have HLP := Lib.hid (HLPS.out 2 (if_neg hr0))
      have HX : Hid (Lq w3 s N D C L a3 2 0 0 2 V6) := Lib.hid ⟨rfl, rfl, HX6.out⟩
      have r1 : ¬ (r : Int) = 0 := by omega
      have r2 : ((r : Int) == 0) = false := beq_eq_false_iff_ne.2 r1
      have r3 : ((r : Int) != 0) = true := bne_iff_ne.2 r1
      clear HX6 HLPS
      go_wp2_with fail
      try simp only [i6]
      clear i1 i2 i3 i4 i5 i6 y0
      go_loopw [20, 21, 22, 23, 24] (fun a b i _ _ wr => ∃ (j t u : Nat) (X : World), X = wr ∧ j ≤ n2 ∧ i = .int .i64 (j : Int) ∧ a = .int .i64 (t : Int) ∧ b = .int .i64 (u : Int) ∧ Hid (Lq w3 s N D C L a3 2 j t u X)) (fun _ _ i _ _ _ => n2 - (RowKit.intOf i).toNat)
      case atStart => exact ⟨0, 0, 2, _, rfl, Nat.zero_le _, rfl, rfl, rfl, HX⟩
      case round =>
        obtain ⟨j, t, u, X, rfl, hj, rfl, rfl, rfl, HJ⟩ := hrel
        clear HX
        have hnI : (n2 : Int) ≤ 512 := by have := HLP.out.n512; omega
        by_cases hlt : j < n2
        · have hjl : j < L.length := by rw [HLP.out.len]; exact hlt
          obtain ⟨i, hqi, hin⟩ := HLP.out.dom _ (List.getElem_mem hjl)
          obtain ⟨nd, hnd⟩ : ∃ nd, N[i]? = some nd := ⟨_, List.getElem?_eq_getElem hin⟩
          obtain ⟨lv, ps⟩ := nd
          obtain ⟨s1, s2, s3⟩ := HJ.out.step HLP.out hjl hqi hnd
          obtain ⟨b1, o1, rfl, hb1, hc1⟩ := HJ.out.2.2.1.cells (by omega)
          obtain ⟨e1, e2⟩ := hc1 j hjl
          obtain ⟨q, hq⟩ : ∃ q, L[j] = q := ⟨_, rfl⟩
          rw [hq] at e1 e2 s1 s3 hqi
          obtain ⟨cq, hcq⟩ : ∃ cq, C q = cq := ⟨_, rfl⟩
          rw [hcq] at e2 s1 s3
          obtain ⟨t2, ht2⟩ : ∃ t2, t + cq = t2 := ⟨_, rfl⟩
          have t1 := shr_add t cq t2 s1 ht2
          rw [ht2] at s3
          have hsz : ps.length ≤ 1000 := by
            have := HSZ.out i hin
            rw [List.getElem?_eq_getElem hin] at hnd
            rw [Option.some.inj hnd] at this
            exact this
          have HRD : Hid (∀ V, IsSh V s 511 N D → Calls Try.prog 14 #[.pointer (some ⟨s, 0, none⟩), .int .i64 q] V (RdS V (lv : Int) ps)) := Lib.hid fun V hV => by
            have := shRead hV i hin
            rw [List.getElem?_eq_getElem hin] at hnd
            rw [Option.some.inj hnd, ← hqi] at this
            exact this
          have HS3 := Lib.hid s3
          have HT := Lib.hid t1
          have d0 : (0 : Int) ≤ (j : Int) := by omega
          have d1 : (j : Int) < (n2 : Int) := by omega
          obtain ⟨np, hnp⟩ : ∃ np, ps.length = np := ⟨_, rfl⟩
          have HNP := Lib.hid hnp
          have HU : Hid (lv ≠ 0 → wrap64 ((u : Int) + (np : Int)) = ((u + np : Nat) : Int)) := Lib.hid fun hl => by
            rw [if_neg hl, hnp] at s2
            unfold wrap64; omega
          by_cases hj0 : j = 0
          · subst hj0
            clear s1 s2 s3 hc1 hqi hnd hb1 hcq ht2 hsz hjl hin hnp hq
            go_wp2_with fail
            go_quiet (fail)
            clear t1 e2
            have HXR := Lib.hid (HRD.out (X.drewN nq) (HJ.out.2.2.2.1.old ((KeptIn.refl _ X).drewN nq)))
            have e9 : (X.drewN nq).cell? ⟨b1, o1, none⟩ = some (.int .i64 q) := by simpa using e1
            go_wp2_with fail
            refine HXR.out.mono ?_
            rintro e V9 ⟨g9, cg9, rfl, hps9, hg9, hk9, hty9⟩
            rw [HNP.out]
            unfold leafV
            obtain ⟨U9, hU9⟩ : ∃ U9, V9.alloc (.cells #[.int .i64 (lv : Int), .slice (some ⟨g9, 0, none⟩) np cg9] 27) = U9 := ⟨_, rfl⟩
            have hby9 : BoxL V9.heap.size (lv : Int) (some ⟨g9, 0, none⟩) np cg9 U9 := by rw [← hU9]; exact BoxL.new V9 _ _ _ _
            have hkU9 : KeptIn (· < X.heap.size) X U9 := by
              rw [← hU9]
              have h1 := ((KeptIn.refl (· < X.heap.size) X).drewN nq).trans hk9
              exact h1.alloc (fun k h => h) _
            obtain ⟨y9, hy9⟩ : ∃ y9, V9.heap.size = y9 := ⟨_, rfl⟩
            rw [hy9] at hby9
            have z0 := hby9.c0
            have z1 := hby9.c1
            have HN9 := Lib.hid (HS3.out U9 hkU9)
            clear hps9 hg9 hk9 hty9 hkU9 hby9 e9 e1
            by_cases hl9 : lv = 0
            · rw [if_pos hl9, Nat.add_zero] at HN9
              obtain ⟨l0, l1, l2, l3⟩ := shr_low lv hl9
              clear hl9
              go_wp2_with fail
              go_roundw
              case rel => exact ⟨_, t2, u, _, rfl, hlt, by go_num, by first | rfl | exact congrArg (Value.int .i64) HT.out, rfl, HN9⟩
              case measure => simp only [RowKit.intOf]; omega
            · rw [if_neg hl9, HNP.out] at HN9
              obtain ⟨l0, l1, l2, l3⟩ := shr_high lv hl9
              have tu := HU.out hl9
              clear hl9
              go_wp2_with fail
              go_roundw
              case rel => exact ⟨_, t2, u + np, _, rfl, hlt, by go_num, by first | rfl | exact congrArg (Value.int .i64) HT.out, by first | rfl | exact congrArg (Value.int .i64) tu, HN9⟩
              case measure => simp only [RowKit.intOf]; omega
          · obtain ⟨j9, hj91⟩ : ∃ j9, j9 + 1 = j := ⟨j - 1, by omega⟩
            have hj9 : j9 < L.length := by omega
            obtain ⟨x1, x2⟩ := hc1 j9 hj9
            have hlt9 : L[j9] < q := by rw [← hq]; exact (List.pairwise_iff_getElem.1 HLP.out.srt) j9 j hj9 hjl (by omega)
            obtain ⟨q9, hq9⟩ : ∃ q9, L[j9] = q9 := ⟨_, rfl⟩
            rw [hq9] at x1 hlt9
            obtain ⟨y1, y2, y3, y4, y5, u1, u2, u3, u4, u5, u6, u7⟩ := shr_prev j j9 n2 hj91 hlt HLP.out.n512
            have x3 : X.cell? ⟨b1, o1 + (j - 1) * 2, none⟩ = some (.int .i64 q9) := by rw [u7]; exact x1
            obtain ⟨y6, y7, y8⟩ := shr_lt q9 q hlt9
            clear s1 s2 s3 hc1 hqi hnd hb1 hcq ht2 hsz hjl hin hnp hq x2 hj9 hlt9 hq9 hj91 hj0
            go_wp2_with fail
            go_quiet (fail)
            clear t1 e2 x1 x3 y1 y2 y3 y4 y5 y6 y7 y8 u1 u2 u3 u4 u5 u6 u7
            have HXR := Lib.hid (HRD.out (X.drewN nq) (HJ.out.2.2.2.1.old ((KeptIn.refl _ X).drewN nq)))
            have e9 : (X.drewN nq).cell? ⟨b1, o1 + j * 2, none⟩ = some (.int .i64 q) := e1
            go_wp2_with fail
            refine HXR.out.mono ?_
            rintro e V9 ⟨g9, cg9, rfl, hps9, hg9, hk9, hty9⟩
            rw [HNP.out]
            unfold leafV
            obtain ⟨U9, hU9⟩ : ∃ U9, V9.alloc (.cells #[.int .i64 (lv : Int), .slice (some ⟨g9, 0, none⟩) np cg9] 27) = U9 := ⟨_, rfl⟩
            have hby9 : BoxL V9.heap.size (lv : Int) (some ⟨g9, 0, none⟩) np cg9 U9 := by rw [← hU9]; exact BoxL.new V9 _ _ _ _
            have hkU9 : KeptIn (· < X.heap.size) X U9 := by
              rw [← hU9]
              have h1 := ((KeptIn.refl (· < X.heap.size) X).drewN nq).trans hk9
              exact h1.alloc (fun k h => h) _
            obtain ⟨y9, hy9⟩ : ∃ y9, V9.heap.size = y9 := ⟨_, rfl⟩
            rw [hy9] at hby9
            have z0 := hby9.c0
            have z1 := hby9.c1
            have HN9 := Lib.hid (HS3.out U9 hkU9)
            clear hps9 hg9 hk9 hty9 hkU9 hby9 e9 e1
            by_cases hl9 : lv = 0
            · rw [if_pos hl9, Nat.add_zero] at HN9
              obtain ⟨l0, l1, l2, l3⟩ := shr_low lv hl9
              clear hl9
              go_wp2_with fail
              go_roundw
              case rel => exact ⟨_, t2, u, _, rfl, hlt, by go_num, by first | rfl | exact congrArg (Value.int .i64) HT.out, rfl, HN9⟩
              case measure => simp only [RowKit.intOf]; omega
            · rw [if_neg hl9, HNP.out] at HN9
              obtain ⟨l0, l1, l2, l3⟩ := shr_high lv hl9
              have tu := HU.out hl9
              clear hl9
              go_wp2_with fail
              go_roundw
              case rel => exact ⟨_, t2, u + np, _, rfl, hlt, by go_num, by first | rfl | exact congrArg (Value.int .i64) HT.out, by first | rfl | exact congrArg (Value.int .i64) tu, HN9⟩
              case measure => simp only [RowKit.intOf]; omega
        · obtain rfl : j = n2 := by omega
          have d1 : ¬ (j : Int) < (j : Int) := by omega
          have htu : t = u := by
            have h1 := HJ.out.1
            have h2 := HJ.out.2.1
            rw [List.take_of_length_le (by rw [HLP.out.len]; exact Nat.le_refl _)] at h1 h2
            rw [h1, h2, HLP.out.sum]
          subst htu
          have HE : Hid (KeptIn (· < w.heap.size) w X) := Lib.hid (HK3.out.go HJ.out.2.2.2.2)
          clear HJ hlt hj
          go_wp2_with fail
          go_ret
          exact ⟨rfl, HE.out⟩
  | false =>
    go_wp2_with fail
    refine HPUT.out.mono ?_
    rintro e V3 ⟨r, er, rfl, hfr, hor⟩
    have hbY := HBY.out.1.kept hfr ⟨HBY.out.1.lt, Nat.ne_of_gt HBY.out.2⟩
    clear HPUT HDRP hfr x1 x2 n2 HSU HBY
    rcases hor with ⟨rfl, hkr⟩ | ⟨rfl, N, D, g', hT⟩
    · have HE := Lib.hid (HK3.out.go hkr)
      clear hkr
      go_wp2_with fail
      go_ret
      exact ⟨rfl, HE.out⟩
    have HT := Lib.hid hT
    have HY := Lib.hid hbY
    have HP1 := Lib.hid hT.pages1
    have hT1 := hT.old ((KeptIn.refl _ V3).alloc (fun _ h => h) (.cells (cellsI [(root : Int)]).toArray 3))
    have HT1 := Lib.hid hT1
    have hY1 := hbY.kept ((KeptIn.refl _ V3).alloc (fun _ h => h) (.cells (cellsI [(root : Int)]).toArray 3)) hbY.lt
    have HY1 := Lib.hid hY1
    simp only [cellsI, List.map_cons, List.map_nil] at HP1 HT1 HY1
    unfold pgV at HP1
    obtain ⟨n1, hn1⟩ : ∃ n1, (need9 N [(root : Int)] (twP1 g)).length = n1 := ⟨_, rfl⟩
    obtain ⟨L, hL⟩ : ∃ L, need9 N [(root : Int), (r : Int)] (twP2 root r g g') = L := ⟨_, rfl⟩
    obtain ⟨C, hC⟩ : ∃ C, cnA N [(root : Int), (r : Int)] (twP2 root r g g') = C := ⟨_, rfl⟩
    obtain ⟨n2, hn2⟩ : ∃ n2, L.length = n2 := ⟨_, rfl⟩
    have hfew := hT.fewer
    rw [hn1, hL, hn2] at hfew
    have hn512 : n1 ≤ 512 := by rw [← hn1]; exact upTo_length _ _
    obtain ⟨m1, hm1⟩ : ∃ m1, m1 = n1 + l := ⟨_, rfl⟩
    obtain ⟨m2, hm2⟩ : ∃ m2, m2 = m1 + 4 := ⟨_, rfl⟩
    have HLIM := Lib.hid (shr_lim n1 n2 l m1 m2 hn512 HL1.out hm1 hm2 hfew)
    have HLPS : Hid (∀ k0, (if r = 0 then 1 else 2) = k0 → Lp N C L n2 k0) := Lib.hid fun k0 hk => hT.lp hC hL hn2 hk
    have HSZ := Lib.hid hT.len
    have HNN := Lib.hid (And.intro hn1 (And.intro hn2 (And.intro hL hC)))
    clear hT hbY hT1 hY1 hn1 hL hC hn2 hfew hn512 hm1 hm2
    go_wp2_with fail
    refine HP1.out.mono ?_
    rintro e V4 ⟨v4, rfl, hrow4, hk4⟩
    obtain ⟨a4, c4, rfl⟩ := row_sliceI hrow4
    rw [HNN.out.1]
    have hT4 := HT1.out.old hk4
    have hY4 := HY1.out.kept hk4 HY1.out.lt
    have HP2 := Lib.hid hT4.pages2
    have HT2 := Lib.hid (hT4.old ((KeptIn.refl _ V4).alloc (fun _ h => h) (.cells (cellsI [(root : Int), (r : Int)]).toArray 3)))
    have HY2 := Lib.hid (hY4.kept ((KeptIn.refl _ V4).alloc (fun _ h => h) (.cells (cellsI [(root : Int), (r : Int)]).toArray 3)) hY4.lt)
    simp only [cellsI, List.map_cons, List.map_nil] at HP2 HT2 HY2
    unfold pgV at HP2
    clear hrow4 hk4 hT4 hY4 HP1 HT1 HY1
    go_wp2_with fail
    refine HP2.out.mono ?_
    rintro e V5 ⟨v5, rfl, hrow5, hk5⟩
    obtain ⟨a5, c5, rfl⟩ := row_sliceI hrow5
    rw [HNN.out.2.2.1, HNN.out.2.1]
    have hT5 := HT2.out.old hk5
    have hY5 := HY2.out.kept hk5 HY2.out.lt
    have HP3 := Lib.hid hT5.refs2
    have HT3 := Lib.hid (hT5.old ((KeptIn.refl _ V5).alloc (fun _ h => h) (.cells (cellsI [(root : Int), (r : Int)]).toArray 3)))
    have HY3 := Lib.hid (hY5.kept ((KeptIn.refl _ V5).alloc (fun _ h => h) (.cells (cellsI [(root : Int), (r : Int)]).toArray 3)) hY5.lt)
    simp only [cellsI, List.map_cons, List.map_nil] at HP3 HT3 HY3
    unfold pgV at HP3
    clear hrow5 hk5 hT5 hY5 HP2 HT2 HY2
    go_wp2_with fail
    refine HP3.out.mono ?_
    rintro e V6 ⟨v6, rfl, hrow6, hk6⟩
    rw [HNN.out.2.2.1, HNN.out.2.2.2] at hrow6
    obtain ⟨a3, c3, rfl⟩ := row_slice9 hrow6
    have hrf := row_IsRf hrow6
    rw [HNN.out.2.1]
    have hT6 := HT3.out.old hk6
    have hY6 := HY3.out.kept hk6 HY3.out.lt
    have y0 := hY6.c0
    obtain ⟨i1, i2, i3, i4, i5, i6⟩ := HLIM.out
    have HX6 := Lib.hid (And.intro hrf (And.intro hT6.sh hT6.kept))
    clear hrow6 hk6 hT6 hY6 hrf HP3 HT3 HY3 HLIM HY
    by_cases hr0 : r = 0
    · subst hr0
      have HLP := Lib.hid (HLPS.out 1 rfl)
      have HX : Hid (Lq w3 s N D C L a3 1 0 0 1 V6) := Lib.hid ⟨rfl, rfl, HX6.out⟩
      clear HX6 HLPS
      go_wp2_with fail
      try simp only [i6]
      clear i1 i2 i3 i4 i5 i6 y0
      go_loopw [20, 21, 22, 23, 24] (fun a b i _ _ wr => ∃ (j t u : Nat) (X : World), X = wr ∧ j ≤ n2 ∧ i = .int .i64 (j : Int) ∧ a = .int .i64 (t : Int) ∧ b = .int .i64 (u : Int) ∧ Hid (Lq w3 s N D C L a3 1 j t u X)) (fun _ _ i _ _ _ => n2 - (RowKit.intOf i).toNat)
      case atStart => exact ⟨0, 0, 1, _, rfl, Nat.zero_le _, rfl, rfl, rfl, HX⟩
      case round =>
        obtain ⟨j, t, u, X, rfl, hj, rfl, rfl, rfl, HJ⟩ := hrel
        clear HX
        have hnI : (n2 : Int) ≤ 512 := by have := HLP.out.n512; omega
        by_cases hlt : j < n2
        · have hjl : j < L.length := by rw [HLP.out.len]; exact hlt
          obtain ⟨i, hqi, hin⟩ := HLP.out.dom _ (List.getElem_mem hjl)
          obtain ⟨nd, hnd⟩ : ∃ nd, N[i]? = some nd := ⟨_, List.getElem?_eq_getElem hin⟩
          obtain ⟨lv, ps⟩ := nd
          obtain ⟨s1, s2, s3⟩ := HJ.out.step HLP.out hjl hqi hnd
          obtain ⟨b1, o1, rfl, hb1, hc1⟩ := HJ.out.2.2.1.cells (by omega)
          obtain ⟨e1, e2⟩ := hc1 j hjl
          obtain ⟨q, hq⟩ : ∃ q, L[j] = q := ⟨_, rfl⟩
          rw [hq] at e1 e2 s1 s3 hqi
          obtain ⟨cq, hcq⟩ : ∃ cq, C q = cq := ⟨_, rfl⟩
          rw [hcq] at e2 s1 s3
          obtain ⟨t2, ht2⟩ : ∃ t2, t + cq = t2 := ⟨_, rfl⟩
          have t1 := shr_add t cq t2 s1 ht2
          rw [ht2] at s3
          have hsz : ps.length ≤ 1000 := by
            have := HSZ.out i hin
            rw [List.getElem?_eq_getElem hin] at hnd
            rw [Option.some.inj hnd] at this
            exact this
          have HRD : Hid (∀ V, IsSh V s 511 N D → Calls Try.prog 14 #[.pointer (some ⟨s, 0, none⟩), .int .i64 q] V (RdS V (lv : Int) ps)) := Lib.hid fun V hV => by
            have := shRead hV i hin
            rw [List.getElem?_eq_getElem hin] at hnd
            rw [Option.some.inj hnd, ← hqi] at this
            exact this
          have HS3 := Lib.hid s3
          have HT := Lib.hid t1
          have d0 : (0 : Int) ≤ (j : Int) := by omega
          have d1 : (j : Int) < (n2 : Int) := by omega
          obtain ⟨np, hnp⟩ : ∃ np, ps.length = np := ⟨_, rfl⟩
          have HNP := Lib.hid hnp
          have HU : Hid (lv ≠ 0 → wrap64 ((u : Int) + (np : Int)) = ((u + np : Nat) : Int)) := Lib.hid fun hl => by
            rw [if_neg hl, hnp] at s2
            unfold wrap64; omega
          by_cases hj0 : j = 0
          · subst hj0
            clear s1 s2 s3 hc1 hqi hnd hb1 hcq ht2 hsz hjl hin hnp hq
            go_wp2_with fail
            go_quiet (fail)
            clear t1 e2
            have HXR := Lib.hid (HRD.out (X.drewN nq) (HJ.out.2.2.2.1.old ((KeptIn.refl _ X).drewN nq)))
            have e9 : (X.drewN nq).cell? ⟨b1, o1, none⟩ = some (.int .i64 q) := by simpa using e1
            go_wp2_with fail
            refine HXR.out.mono ?_
            rintro e V9 ⟨g9, cg9, rfl, hps9, hg9, hk9, hty9⟩
            rw [HNP.out]
            unfold leafV
            obtain ⟨U9, hU9⟩ : ∃ U9, V9.alloc (.cells #[.int .i64 (lv : Int), .slice (some ⟨g9, 0, none⟩) np cg9] 27) = U9 := ⟨_, rfl⟩
            have hby9 : BoxL V9.heap.size (lv : Int) (some ⟨g9, 0, none⟩) np cg9 U9 := by rw [← hU9]; exact BoxL.new V9 _ _ _ _
            have hkU9 : KeptIn (· < X.heap.size) X U9 := by
              rw [← hU9]
              have h1 := ((KeptIn.refl (· < X.heap.size) X).drewN nq).trans hk9
              exact h1.alloc (fun k h => h) _
            obtain ⟨y9, hy9⟩ : ∃ y9, V9.heap.size = y9 := ⟨_, rfl⟩
            rw [hy9] at hby9
            have z0 := hby9.c0
            have z1 := hby9.c1
            have HN9 := Lib.hid (HS3.out U9 hkU9)
            clear hps9 hg9 hk9 hty9 hkU9 hby9 e9 e1
            by_cases hl9 : lv = 0
            · rw [if_pos hl9, Nat.add_zero] at HN9
              obtain ⟨l0, l1, l2, l3⟩ := shr_low lv hl9
              clear hl9
              go_wp2_with fail
              go_roundw
              case rel => exact ⟨_, t2, u, _, rfl, hlt, by go_num, by first | rfl | exact congrArg (Value.int .i64) HT.out, rfl, HN9⟩
              case measure => simp only [RowKit.intOf]; omega
            · rw [if_neg hl9, HNP.out] at HN9
              obtain ⟨l0, l1, l2, l3⟩ := shr_high lv hl9
              have tu := HU.out hl9
              clear hl9
              go_wp2_with fail
              go_roundw
              case rel => exact ⟨_, t2, u + np, _, rfl, hlt, by go_num, by first | rfl | exact congrArg (Value.int .i64) HT.out, by first | rfl | exact congrArg (Value.int .i64) tu, HN9⟩
              case measure => simp only [RowKit.intOf]; omega
          · obtain ⟨j9, hj91⟩ : ∃ j9, j9 + 1 = j := ⟨j - 1, by omega⟩
            have hj9 : j9 < L.length := by omega
            obtain ⟨x1, x2⟩ := hc1 j9 hj9
            have hlt9 : L[j9] < q := by rw [← hq]; exact (List.pairwise_iff_getElem.1 HLP.out.srt) j9 j hj9 hjl (by omega)
            obtain ⟨q9, hq9⟩ : ∃ q9, L[j9] = q9 := ⟨_, rfl⟩
            rw [hq9] at x1 hlt9
            obtain ⟨y1, y2, y3, y4, y5, u1, u2, u3, u4, u5, u6, u7⟩ := shr_prev j j9 n2 hj91 hlt HLP.out.n512
            have x3 : X.cell? ⟨b1, o1 + (j - 1) * 2, none⟩ = some (.int .i64 q9) := by rw [u7]; exact x1
            obtain ⟨y6, y7, y8⟩ := shr_lt q9 q hlt9
            clear s1 s2 s3 hc1 hqi hnd hb1 hcq ht2 hsz hjl hin hnp hq x2 hj9 hlt9 hq9 hj91 hj0
            go_wp2_with fail
            go_quiet (fail)
            clear t1 e2 x1 x3 y1 y2 y3 y4 y5 y6 y7 y8 u1 u2 u3 u4 u5 u6 u7
            have HXR := Lib.hid (HRD.out (X.drewN nq) (HJ.out.2.2.2.1.old ((KeptIn.refl _ X).drewN nq)))
            have e9 : (X.drewN nq).cell? ⟨b1, o1 + j * 2, none⟩ = some (.int .i64 q) := e1
            go_wp2_with fail
            refine HXR.out.mono ?_
            rintro e V9 ⟨g9, cg9, rfl, hps9, hg9, hk9, hty9⟩
            rw [HNP.out]
            unfold leafV
            obtain ⟨U9, hU9⟩ : ∃ U9, V9.alloc (.cells #[.int .i64 (lv : Int), .slice (some ⟨g9, 0, none⟩) np cg9] 27) = U9 := ⟨_, rfl⟩
            have hby9 : BoxL V9.heap.size (lv : Int) (some ⟨g9, 0, none⟩) np cg9 U9 := by rw [← hU9]; exact BoxL.new V9 _ _ _ _
            have hkU9 : KeptIn (· < X.heap.size) X U9 := by
              rw [← hU9]
              have h1 := ((KeptIn.refl (· < X.heap.size) X).drewN nq).trans hk9
              exact h1.alloc (fun k h => h) _
            obtain ⟨y9, hy9⟩ : ∃ y9, V9.heap.size = y9 := ⟨_, rfl⟩
            rw [hy9] at hby9
            have z0 := hby9.c0
            have z1 := hby9.c1
            have HN9 := Lib.hid (HS3.out U9 hkU9)
            clear hps9 hg9 hk9 hty9 hkU9 hby9 e9 e1
            by_cases hl9 : lv = 0
            · rw [if_pos hl9, Nat.add_zero] at HN9
              obtain ⟨l0, l1, l2, l3⟩ := shr_low lv hl9
              clear hl9
              go_wp2_with fail
              go_roundw
              case rel => exact ⟨_, t2, u, _, rfl, hlt, by go_num, by first | rfl | exact congrArg (Value.int .i64) HT.out, rfl, HN9⟩
              case measure => simp only [RowKit.intOf]; omega
            · rw [if_neg hl9, HNP.out] at HN9
              obtain ⟨l0, l1, l2, l3⟩ := shr_high lv hl9
              have tu := HU.out hl9
              clear hl9
              go_wp2_with fail
              go_roundw
              case rel => exact ⟨_, t2, u + np, _, rfl, hlt, by go_num, by first | rfl | exact congrArg (Value.int .i64) HT.out, by first | rfl | exact congrArg (Value.int .i64) tu, HN9⟩
              case measure => simp only [RowKit.intOf]; omega
        · obtain rfl : j = n2 := by omega
          have d1 : ¬ (j : Int) < (j : Int) := by omega
          have htu : t = u := by
            have h1 := HJ.out.1
            have h2 := HJ.out.2.1
            rw [List.take_of_length_le (by rw [HLP.out.len]; exact Nat.le_refl _)] at h1 h2
            rw [h1, h2, HLP.out.sum]
          subst htu
          have HE : Hid (KeptIn (· < w.heap.size) w X) := Lib.hid (HK3.out.go HJ.out.2.2.2.2)
          clear HJ hlt hj
          go_wp2_with fail
          go_ret
          exact ⟨rfl, HE.out⟩
    · have HLP := Lib.hid (HLPS.out 2 (if_neg hr0))
      have HX : Hid (Lq w3 s N D C L a3 2 0 0 2 V6) := Lib.hid ⟨rfl, rfl, HX6.out⟩
      have r1 : ¬ (r : Int) = 0 := by omega
      have r2 : ((r : Int) == 0) = false := beq_eq_false_iff_ne.2 r1
      have r3 : ((r : Int) != 0) = true := bne_iff_ne.2 r1
      clear HX6 HLPS
      go_wp2_with fail
      try simp only [i6]
      clear i1 i2 i3 i4 i5 i6 y0
      go_loopw [20, 21, 22, 23, 24] (fun a b i _ _ wr => ∃ (j t u : Nat) (X : World), X = wr ∧ j ≤ n2 ∧ i = .int .i64 (j : Int) ∧ a = .int .i64 (t : Int) ∧ b = .int .i64 (u : Int) ∧ Hid (Lq w3 s N D C L a3 2 j t u X)) (fun _ _ i _ _ _ => n2 - (RowKit.intOf i).toNat)
      case atStart => exact ⟨0, 0, 2, _, rfl, Nat.zero_le _, rfl, rfl, rfl, HX⟩
      case round =>
        obtain ⟨j, t, u, X, rfl, hj, rfl, rfl, rfl, HJ⟩ := hrel
        clear HX
        have hnI : (n2 : Int) ≤ 512 := by have := HLP.out.n512; omega
        by_cases hlt : j < n2
        · have hjl : j < L.length := by rw [HLP.out.len]; exact hlt
          obtain ⟨i, hqi, hin⟩ := HLP.out.dom _ (List.getElem_mem hjl)
          obtain ⟨nd, hnd⟩ : ∃ nd, N[i]? = some nd := ⟨_, List.getElem?_eq_getElem hin⟩
          obtain ⟨lv, ps⟩ := nd
          obtain ⟨s1, s2, s3⟩ := HJ.out.step HLP.out hjl hqi hnd
          obtain ⟨b1, o1, rfl, hb1, hc1⟩ := HJ.out.2.2.1.cells (by omega)
          obtain ⟨e1, e2⟩ := hc1 j hjl
          obtain ⟨q, hq⟩ : ∃ q, L[j] = q := ⟨_, rfl⟩
          rw [hq] at e1 e2 s1 s3 hqi
          obtain ⟨cq, hcq⟩ : ∃ cq, C q = cq := ⟨_, rfl⟩
          rw [hcq] at e2 s1 s3
          obtain ⟨t2, ht2⟩ : ∃ t2, t + cq = t2 := ⟨_, rfl⟩
          have t1 := shr_add t cq t2 s1 ht2
          rw [ht2] at s3
          have hsz : ps.length ≤ 1000 := by
            have := HSZ.out i hin
            rw [List.getElem?_eq_getElem hin] at hnd
            rw [Option.some.inj hnd] at this
            exact this
          have HRD : Hid (∀ V, IsSh V s 511 N D → Calls Try.prog 14 #[.pointer (some ⟨s, 0, none⟩), .int .i64 q] V (RdS V (lv : Int) ps)) := Lib.hid fun V hV => by
            have := shRead hV i hin
            rw [List.getElem?_eq_getElem hin] at hnd
            rw [Option.some.inj hnd, ← hqi] at this
            exact this
          have HS3 := Lib.hid s3
          have HT := Lib.hid t1
          have d0 : (0 : Int) ≤ (j : Int) := by omega
          have d1 : (j : Int) < (n2 : Int) := by omega
          obtain ⟨np, hnp⟩ : ∃ np, ps.length = np := ⟨_, rfl⟩
          have HNP := Lib.hid hnp
          have HU : Hid (lv ≠ 0 → wrap64 ((u : Int) + (np : Int)) = ((u + np : Nat) : Int)) := Lib.hid fun hl => by
            rw [if_neg hl, hnp] at s2
            unfold wrap64; omega
          by_cases hj0 : j = 0
          · subst hj0
            clear s1 s2 s3 hc1 hqi hnd hb1 hcq ht2 hsz hjl hin hnp hq
            go_wp2_with fail
            go_quiet (fail)
            clear t1 e2
            have HXR := Lib.hid (HRD.out (X.drewN nq) (HJ.out.2.2.2.1.old ((KeptIn.refl _ X).drewN nq)))
            have e9 : (X.drewN nq).cell? ⟨b1, o1, none⟩ = some (.int .i64 q) := by simpa using e1
            go_wp2_with fail
            refine HXR.out.mono ?_
            rintro e V9 ⟨g9, cg9, rfl, hps9, hg9, hk9, hty9⟩
            rw [HNP.out]
            unfold leafV
            obtain ⟨U9, hU9⟩ : ∃ U9, V9.alloc (.cells #[.int .i64 (lv : Int), .slice (some ⟨g9, 0, none⟩) np cg9] 27) = U9 := ⟨_, rfl⟩
            have hby9 : BoxL V9.heap.size (lv : Int) (some ⟨g9, 0, none⟩) np cg9 U9 := by rw [← hU9]; exact BoxL.new V9 _ _ _ _
            have hkU9 : KeptIn (· < X.heap.size) X U9 := by
              rw [← hU9]
              have h1 := ((KeptIn.refl (· < X.heap.size) X).drewN nq).trans hk9
              exact h1.alloc (fun k h => h) _
            obtain ⟨y9, hy9⟩ : ∃ y9, V9.heap.size = y9 := ⟨_, rfl⟩
            rw [hy9] at hby9
            have z0 := hby9.c0
            have z1 := hby9.c1
            have HN9 := Lib.hid (HS3.out U9 hkU9)
            clear hps9 hg9 hk9 hty9 hkU9 hby9 e9 e1
            by_cases hl9 : lv = 0
            · rw [if_pos hl9, Nat.add_zero] at HN9
              obtain ⟨l0, l1, l2, l3⟩ := shr_low lv hl9
              clear hl9
              go_wp2_with fail
              go_roundw
              case rel => exact ⟨_, t2, u, _, rfl, hlt, by go_num, by first | rfl | exact congrArg (Value.int .i64) HT.out, rfl, HN9⟩
              case measure => simp only [RowKit.intOf]; omega
            · rw [if_neg hl9, HNP.out] at HN9
              obtain ⟨l0, l1, l2, l3⟩ := shr_high lv hl9
              have tu := HU.out hl9
              clear hl9
              go_wp2_with fail
              go_roundw
              case rel => exact ⟨_, t2, u + np, _, rfl, hlt, by go_num, by first | rfl | exact congrArg (Value.int .i64) HT.out, by first | rfl | exact congrArg (Value.int .i64) tu, HN9⟩
              case measure => simp only [RowKit.intOf]; omega
          · obtain ⟨j9, hj91⟩ : ∃ j9, j9 + 1 = j := ⟨j - 1, by omega⟩
            have hj9 : j9 < L.length := by omega
            obtain ⟨x1, x2⟩ := hc1 j9 hj9
            have hlt9 : L[j9] < q := by rw [← hq]; exact (List.pairwise_iff_getElem.1 HLP.out.srt) j9 j hj9 hjl (by omega)
            obtain ⟨q9, hq9⟩ : ∃ q9, L[j9] = q9 := ⟨_, rfl⟩
            rw [hq9] at x1 hlt9
            obtain ⟨y1, y2, y3, y4, y5, u1, u2, u3, u4, u5, u6, u7⟩ := shr_prev j j9 n2 hj91 hlt HLP.out.n512
            have x3 : X.cell? ⟨b1, o1 + (j - 1) * 2, none⟩ = some (.int .i64 q9) := by rw [u7]; exact x1
            obtain ⟨y6, y7, y8⟩ := shr_lt q9 q hlt9
            clear s1 s2 s3 hc1 hqi hnd hb1 hcq ht2 hsz hjl hin hnp hq x2 hj9 hlt9 hq9 hj91 hj0
            go_wp2_with fail
            go_quiet (fail)
            clear t1 e2 x1 x3 y1 y2 y3 y4 y5 y6 y7 y8 u1 u2 u3 u4 u5 u6 u7
            have HXR := Lib.hid (HRD.out (X.drewN nq) (HJ.out.2.2.2.1.old ((KeptIn.refl _ X).drewN nq)))
            have e9 : (X.drewN nq).cell? ⟨b1, o1 + j * 2, none⟩ = some (.int .i64 q) := e1
            go_wp2_with fail
            refine HXR.out.mono ?_
            rintro e V9 ⟨g9, cg9, rfl, hps9, hg9, hk9, hty9⟩
            rw [HNP.out]
            unfold leafV
            obtain ⟨U9, hU9⟩ : ∃ U9, V9.alloc (.cells #[.int .i64 (lv : Int), .slice (some ⟨g9, 0, none⟩) np cg9] 27) = U9 := ⟨_, rfl⟩
            have hby9 : BoxL V9.heap.size (lv : Int) (some ⟨g9, 0, none⟩) np cg9 U9 := by rw [← hU9]; exact BoxL.new V9 _ _ _ _
            have hkU9 : KeptIn (· < X.heap.size) X U9 := by
              rw [← hU9]
              have h1 := ((KeptIn.refl (· < X.heap.size) X).drewN nq).trans hk9
              exact h1.alloc (fun k h => h) _
            obtain ⟨y9, hy9⟩ : ∃ y9, V9.heap.size = y9 := ⟨_, rfl⟩
            rw [hy9] at hby9
            have z0 := hby9.c0
            have z1 := hby9.c1
            have HN9 := Lib.hid (HS3.out U9 hkU9)
            clear hps9 hg9 hk9 hty9 hkU9 hby9 e9 e1
            by_cases hl9 : lv = 0
            · rw [if_pos hl9, Nat.add_zero] at HN9
              obtain ⟨l0, l1, l2, l3⟩ := shr_low lv hl9
              clear hl9
              go_wp2_with fail
              go_roundw
              case rel => exact ⟨_, t2, u, _, rfl, hlt, by go_num, by first | rfl | exact congrArg (Value.int .i64) HT.out, rfl, HN9⟩
              case measure => simp only [RowKit.intOf]; omega
            · rw [if_neg hl9, HNP.out] at HN9
              obtain ⟨l0, l1, l2, l3⟩ := shr_high lv hl9
              have tu := HU.out hl9
              clear hl9
              go_wp2_with fail
              go_roundw
              case rel => exact ⟨_, t2, u + np, _, rfl, hlt, by go_num, by first | rfl | exact congrArg (Value.int .i64) HT.out, by first | rfl | exact congrArg (Value.int .i64) tu, HN9⟩
              case measure => simp only [RowKit.intOf]; omega
        · obtain rfl : j = n2 := by omega
          have d1 : ¬ (j : Int) < (j : Int) := by omega
          have htu : t = u := by
            have h1 := HJ.out.1
            have h2 := HJ.out.2.1
            rw [List.take_of_length_le (by rw [HLP.out.len]; exact Nat.le_refl _)] at h1 h2
            rw [h1, h2, HLP.out.sum]
          subst htu
          have HE : Hid (KeptIn (· < w.heap.size) w X) := Lib.hid (HK3.out.go HJ.out.2.2.2.2)
          clear HJ hlt hj
          go_wp2_with fail
          go_ret
          exact ⟨rfl, HE.out⟩

end Go.Proofs.Ytbnpabpkaebojaa
