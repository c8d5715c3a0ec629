import Derived.Test.YtbnpabpkaebojaaGh12Q
import Derived.Test.YtbnpabpkaebojaaRo12Q
import Derived.Deep.Cut
import Derived.Deep.CutRange
import Derived.Deep.CutBlock
import Derived.Deep.RegionLaw
/- MapsGood of layer 12: the walk: it returns true for every input and writes nothing that was there. -/
set_option linter.unusedVariables false
namespace Go.Proofs.Ytbnpabpkaebojaa
open Go.RowKit

/-- Entries that came in. -/
def IsEnts12 (W : World) (a : Option Addr) (len cap : Nat) : Prop := ∃ es : Ents, es.length = len ∧ IsEs W a es ∧ len ≤ cap ∧ cap ≤ maxLen

theorem map_snoc12 {es : Ents} {j : Nat} (h : j < es.length) (f : Int × Int → Int) : (es.take (j + 1)).map f = (es.take j).map f ++ [f (atE es j)] := by
  rw [List.take_add_one, List.getElem?_eq_getElem h, List.map_append, atE_get h]
  rfl

/-- What stands while the pairs are put. -/
structure Gd2 (w V2 : World) (s u j root : Nat) (odd : Bool) (qs : Pairs) (N : List Nd) (W : World) : Prop where
  tr : TrN V2 s 200 root qs (8 + j) N W
  nl : N.length ≤ 5 * j
  ql : qs.length ≤ j
  row : RowM u zerosM W
  su : V2.heap.size ≤ u ∧ s < u
  ss : V2.heap.size ≤ s
  odd : odd = true ↔ ∃ p ∈ qs, 63 < p.1
  kw : KeptIn (· < w.heap.size) w V2
/-- What Put leaves there. -/
def GdP (w V2 : World) (s u j : Nat) (odd : Bool) (qs : Pairs) (k v : Nat) (V : World) (e : Ending) (W : World) : Prop :=
  ∃ (r : Nat) (N : List Nd), e = .returned (.tuple #[.int .i64 (r : Int), .int .i64 0]) ∧ Fr8 s V W ∧ Gd2 w V2 s u (j + 1) r (odd || decide (63 < k)) (chg [(k, v)] k qs) N W
theorem gd_put {w V2 V V' : World} {s u j root k v : Nat} {odd : Bool} {qs : Pairs} {N : List Nd} (h : Gd2 w V2 s u j root odd qs N V) (hj : j < 20) (hk : k < 18446744073709551616) (hv : v < 18446744073709551616) (hV : KeptIn (· < V.heap.size) V V') :
    Calls Try.prog 16 #[pgV s, .int .i64 (root : Int), .int .u64 (k : Int), .int .u64 (v : Int)] V' (GdP w V2 s u j odd qs k v V) := by
  refine (tnPut (h.tr.old hV) (by omega) (by omega) hk hv).mono ?_
  rintro e W ⟨r, er, M, rfl, hM, hfr, hor⟩
  have hn := h.nl
  rcases hor with ⟨_, _, _, hx⟩ | ⟨rfl, ht⟩
  · exfalso
    rw [List.length_append] at hx
    omega
  have hfr2 := fr8_trans (fr8_of hV) hfr
  refine ⟨r, _, rfl, hfr2, ht.mono (by omega), by rw [List.length_append]; omega, Nat.le_trans (len_put k v qs) (by have := h.ql; omega), h.row.kept (hfr2.block u ⟨h.row.lt, Nat.ne_of_gt h.su.2⟩), h.su, h.ss, ?_, h.kw⟩
  rw [Bool.or_eq_true, h.odd, decide_eq_true_iff]
  constructor
  · rintro (⟨p, hp, hp2⟩ | hk2)
    · by_cases hpk : p.1 = k
      · exact ⟨(k, v), mem_chg12.2 (.inr (List.mem_singleton.2 rfl)), by rw [← hpk]; exact hp2⟩
      · exact ⟨p, mem_chg12.2 (.inl ⟨hp, hpk⟩), hp2⟩
    · exact ⟨(k, v), mem_chg12.2 (.inr (List.mem_singleton.2 rfl)), hk2⟩
  · rintro ⟨p, hp, hp2⟩
    rcases mem_chg12.1 hp with ⟨h1, _⟩ | h1
    · exact .inl ⟨p, h1, hp2⟩
    · rw [List.mem_singleton.1 h1] at hp2
      exact .inr hp2

theorem Gd2.old {w V2 W W' : World} {s u j root : Nat} {odd : Bool} {qs : Pairs} {N : List Nd} (h : Gd2 w V2 s u j root odd qs N W) (hk : KeptIn (· < W.heap.size) W W') : Gd2 w V2 s u j root odd qs N W' :=
  ⟨h.tr.old hk, h.nl, h.ql, h.row.kept (hk.block u h.row.lt), h.su, h.ss, h.odd, h.kw⟩
/-- What stands while the pairs are looked at. -/
structure Gd3 (w V2 : World) (s u n root : Nat) (qs rs : Pairs) (N : List Nd) (ap : Option Addr) (i : Nat) (odd : Bool) (W : World) : Prop where
  tr : TrN V2 s 200 root qs (8 + n) N W
  ps : IsPs W ap rs
  pb : ∀ p, ap = some p → p.block < W.heap.size ∧ p.block ≠ u
  row : ∃ l : List Nat, l.length = 64 ∧ RowM u l W ∧ (GoodM (rs.take i) → l = rowU (rs.take i))
  odd : odd = true ↔ (∃ p ∈ qs, 63 < p.1) ∨ ∃ p ∈ rs.take i, ¬ (1 ≤ p.2 ∧ p.2 ≤ 1023)
  su : V2.heap.size ≤ u
  kw : KeptIn (· < w.heap.size) w V2
theorem Gd3.bad {w V2 W : World} {s u n root i : Nat} {qs rs : Pairs} {N : List Nd} {ap : Option Addr} {odd : Bool} (h : Gd3 w V2 s u n root qs rs N ap i odd W) (hi : i < rs.length) (hv : ¬ (1 ≤ valAt rs i ∧ valAt rs i ≤ 1023)) : Gd3 w V2 s u n root qs rs N ap (i + 1) true W := by
  have e : rs.take (i + 1) = rs.take i ++ [(keyAt rs i, valAt rs i)] := take_snoc12 rs i hi
  obtain ⟨l, h1, h2, h3⟩ := h.row
  refine ⟨h.tr, h.ps, h.pb, ⟨l, h1, h2, fun hg => ?_⟩, ⟨fun _ => .inr ⟨_, by rw [e]; exact List.mem_append.2 (.inr (List.mem_singleton.2 rfl)), hv⟩, fun _ => rfl⟩, h.su, h.kw⟩
  exact absurd ⟨(hg (keyAt rs i, valAt rs i) (by rw [e]; exact List.mem_append.2 (.inr (List.mem_singleton.2 rfl)))).2.1, (hg (keyAt rs i, valAt rs i) (by rw [e]; exact List.mem_append.2 (.inr (List.mem_singleton.2 rfl)))).2.2⟩ hv
theorem Gd3.good {w V2 W W' : World} {s u n root i : Nat} {qs rs : Pairs} {N : List Nd} {ap : Option Addr} {odd : Bool} {l : List Nat} (h : Gd3 w V2 s u n root qs rs N ap i odd W) (hi : i < rs.length) (hs : Srt rs) (hv : 1 ≤ valAt rs i ∧ valAt rs i ≤ 1023)
    (hl : l.length = 64) (hr : RowM u l W) (hlr : GoodM (rs.take i) → l = rowU (rs.take i)) (hk : KeptIn (· ≠ u) W W') (hr' : RowM u (l.set (keyAt rs i) (valAt rs i)) W') : Gd3 w V2 s u n root qs rs N ap (i + 1) odd W' := by
  have e : rs.take (i + 1) = rs.take i ++ [(keyAt rs i, valAt rs i)] := take_snoc12 rs i hi
  refine ⟨h.tr.storeM hr h.su hk, psAt h.ps hk fun p e => (h.pb p e).2, fun p e => ⟨Nat.lt_of_lt_of_le (h.pb p e).1 hk.size, (h.pb p e).2⟩, ⟨_, by rw [List.length_set]; exact hl, hr', fun hg => ?_⟩, ?_, h.su, h.kw⟩
  · rw [hlr (hg.sub fun p hp => by rw [e]; exact List.mem_append.2 (.inl hp)), e]
    exact rowU_snoc (by rw [← e]; exact srt_take hs _)
  · rw [h.odd, e]
    constructor
    · rintro (h1 | ⟨p, hp, h2⟩)
      · exact .inl h1
      · exact .inr ⟨p, List.mem_append.2 (.inl hp), h2⟩
    · rintro (h1 | ⟨p, hp, h2⟩)
      · exact .inl h1
      · rcases List.mem_append.1 hp with hp | hp
        · exact .inr ⟨p, hp, h2⟩
        · rw [List.mem_singleton.1 hp] at h2
          exact absurd hv h2
theorem Gd3.old {w V2 W W' : World} {s u n root i : Nat} {qs rs : Pairs} {N : List Nd} {ap : Option Addr} {odd : Bool} (h : Gd3 w V2 s u n root qs rs N ap i odd W) (hk : KeptIn (· < W.heap.size) W W') : Gd3 w V2 s u n root qs rs N ap i odd W' := by
  obtain ⟨l, h1, h2, h3⟩ := h.row
  exact ⟨h.tr.old hk, h.ps.old hk, fun p e => ⟨Nat.lt_of_lt_of_le (h.pb p e).1 hk.size, (h.pb p e).2⟩, ⟨l, h1, h2.kept (hk.block u h2.lt), h3⟩, h.odd, h.su, h.kw⟩
/-- Whether all pairs are a map's. -/
theorem Gd3.fin {w V2 W : World} {s u n root : Nat} {qs rs : Pairs} {N : List Nd} {ap : Option Addr} {odd : Bool} (h : Gd3 w V2 s u n root qs rs N ap rs.length odd W) (hrs : rs = rng 0 63 qs) : (odd = false ↔ GoodM qs) ∧ (GoodM qs → rs = qs) := by
  have e1 : GoodM qs → rs = qs := fun hg => by
    rw [hrs]
    exact rng_all fun p hp => ⟨Nat.zero_le _, by have := (hg p hp).1; omega⟩
  refine ⟨?_, e1⟩
  have h0 := h.odd
  rw [List.take_length] at h0
  constructor
  · intro hf p hp
    have hno : ¬ ((∃ p ∈ qs, 63 < p.1) ∨ ∃ p ∈ rs, ¬ (1 ≤ p.2 ∧ p.2 ≤ 1023)) := fun hx => by rw [h0.2 hx] at hf; cases hf
    have h1 : p.1 < 64 := by
      rcases Nat.lt_or_ge p.1 64 with h1 | h1
      · exact h1
      · exact absurd (.inl ⟨p, hp, by omega⟩) hno
    have hpr : p ∈ rs := by
      rw [hrs]
      unfold rng
      rw [List.mem_filter]
      refine ⟨hp, ?_⟩
      simp
      omega
    refine ⟨h1, ?_⟩
    exact Classical.byContradiction fun hx => hno (.inr ⟨p, hpr, hx⟩)
  · intro hg
    cases odd with
    | false => rfl
    | true =>
      exfalso
      rcases h0.1 rfl with ⟨p, hp, h1⟩ | ⟨p, hp, h1⟩
      · have := (hg p hp).1
        omega
      · rw [e1 hg] at hp
        exact h1 (hg p hp).2

set_option maxHeartbeats 16000000 in
set_option maxRecDepth 100000 in
theorem gooW (a : Option Addr) (len cap : Nat) (z : Int) (b : Option Addr) (len2 cap2 : Nat) (w : World) (w0 : IsEnts12 w a len cap) (wz : (Lit.int .i64 z).wf = true) (w1 : IsPairs8 w b len2 cap2) :
    Calls Try.prog 7 #[.slice a len cap, .int .i64 z, .slice b len2 cap2] w fun e w' => e = .returned (.bool true) ∧ KeptIn (· < w.heap.size) w w' := by
  obtain ⟨es, hel, hes, he1, he2⟩ := w0
  obtain ⟨ps, hpl, hps, hp1, hp2⟩ := w1
  have l0 : len ≤ maxLen := Nat.le_trans he1 he2
  have l1 : len2 ≤ maxLen := Nat.le_trans hp1 hp2
  unfold maxLen at l0 l1
  have b0 : (len : Int) ≤ 9223372036854775807 := by omega
  have b1 : (len2 : Int) ≤ 9223372036854775807 := by omega
  have WA := Lib.hid (And.intro hel hes)
  have WB := Lib.hid (And.intro hpl hps)
  clear hel hes he1 he2 hpl hps hp1 hp2 l0 l1 wz
  by_cases hbig : 20 < len
  · have g1 : (20 : Int) < (len : Int) := by omega
    go_enter Try.func7, Try.ntmps7
    go_wp2_with fail
    refine (awake12 w).mono ?_
    rintro e w3 ⟨rfl, k3⟩
    go_wp2_with fail
    go_ret
    exact ⟨rfl, k3⟩
  have g1 : ¬ (20 : Int) < (len : Int) := by omega
  have g2 : decide ((20 : Int) < (len : Int)) = false := decide_eq_false g1
  have g3 : len ≤ 20 := by omega
  have g7 : (len : Int) ≤ 20 := by omega
  clear hbig
  by_cases hbig : 20 < len2
  · have g4 : (20 : Int) < (len2 : Int) := by omega
    go_enter Try.func7, Try.ntmps7
    go_wp2_with fail
    refine (awake12 w).mono ?_
    rintro e w3 ⟨rfl, k3⟩
    go_wp2_with fail
    go_ret
    exact ⟨rfl, k3⟩
  have g4 : ¬ (20 : Int) < (len2 : Int) := by omega
  have g5 : decide ((20 : Int) < (len2 : Int)) = false := decide_eq_false g4
  have g6 : len2 ≤ 20 := by omega
  have g8 : (len2 : Int) ≤ 20 := by omega
  clear hbig
  go_enter Try.func7, Try.ntmps7
  go_wp2_with fail
  refine (awake12 w).mono ?_
  rintro e w3 ⟨rfl, k3⟩
  obtain ⟨B, hB⟩ : ∃ B, w3.heap.size = B := ⟨_, rfl⟩
  obtain ⟨W2, hW2⟩ : ∃ W2, (w3.alloc (.cells #[] 3)).alloc (.cells #[] 3) = W2 := ⟨_, rfl⟩
  have HI0 : Hid (Ge1 w3 B ((es.take 0).map Prod.fst) ((es.take 0).map Prod.snd) (.slice (some ⟨B, 0, none⟩) 0 0) (.slice (some ⟨B + 1, 0, none⟩) 0 0) W2) := Lib.hid (ge1_zero w3 B hB W2 hW2.symm)
  have HK3 := Lib.hid (And.intro k3 hB)
  have HW := Lib.hid (And.intro hW2 hB)
  have HZ := Lib.hid hB
  obtain ⟨ii, hii, hz0, hz1, hz2⟩ := info_parts infoInt12
  clear hB hW2 k3
  go_wp2_with fail
  rw [HW.out.1]
  simp only [HZ.out]
  clear g1 g2 g4 g5
  go_loopw [7, 8, 9] (fun u v i wr => ∃ (j : Nat) (V : World) (v1 v2 : Value), V = wr ∧ v1 = u ∧ v2 = v ∧ j ≤ len ∧ i = .int .i64 (j : Int) ∧ Hid (Ge1 w3 B ((es.take j).map Prod.fst) ((es.take j).map Prod.snd) v1 v2 V)) (fun _ _ i _ => len - (intOf i).toNat)
  case atStart => exact ⟨0, _, _, _, rfl, rfl, rfl, Nat.zero_le _, rfl, HI0⟩
  case round =>
    obtain ⟨j, V, v1, v2, rfl, rfl, rfl, hj, rfl, HJ⟩ := hrel
    clear HI0
    have d0 : (0 : Int) ≤ (j : Int) := by omega
    by_cases hlt : j < len
    · have d1 : (j : Int) < (len : Int) := by omega
      have hkw := HK3.out.1.go (HJ.out.kept.mono fun k (hk : k < w3.heap.size) => by rw [HZ.out] at hk; exact hk)
      obtain ⟨bb, oo, rfl, hbb, hc⟩ := WA.out.2.cells (by rw [WA.out.1]; omega)
      have hje : j < es.length := by rw [WA.out.1]; exact hlt
      obtain ⟨c1, c2⟩ := hc j hje
      have e1 := (World.cell?_of_block (a := ⟨bb, oo + j * 2, none⟩) (hkw.block bb hbb)).trans c1
      have HC2 : Hid (∀ V', KeptIn (· < B) w3 V' → V'.cell? ⟨bb, oo + j * 2 + 1, none⟩ = some (.int .i64 (atE es j).2)) := Lib.hid fun V' hk => (World.cell?_of_block (a := ⟨bb, oo + j * 2 + 1, none⟩) ((HK3.out.1.go (hk.mono fun k (hk : k < w3.heap.size) => by rw [HZ.out] at hk; exact hk)).block bb hbb)).trans c2
      have hS1 := map_snoc12 hje Prod.fst
      have hS2 := map_snoc12 hje Prod.snd
      have hl1 : ((es.take j).map Prod.fst).length = j := by rw [List.length_map, List.length_take]; omega
      have hl2 : ((es.take j).map Prod.snd).length = j := by rw [List.length_map, List.length_take]; omega
      obtain ⟨⟨x, y⟩, hxy⟩ : ∃ p, atE es j = p := ⟨_, rfl⟩
      rw [hxy] at e1 HC2 hS1 hS2
      simp only at e1 HC2 hS1 hS2
      have HS := Lib.hid (And.intro hS1 (And.intro hS2 (And.intro hl1 hl2)))
      have hr1 := HJ.out.r1
      rw [hl1] at hr1
      have HR1 := Lib.hid hr1
      obtain ⟨q1, q2⟩ := ef_bnd j (by omega)
      have q3 : j + 1 ≤ maxLen := q1
      have q4 : (j + 1) * 8 ≤ 140737488355328 := by omega
      have q5 := HJ.out.le
      clear c1 c2 hkw hc hbb hS1 hS2 hl1 hl2 hr1 hxy hje q2 q1
      go_wp2_with (first
        | (at_builtin; refine wpList_append_lies _ rfl _ _ 23 rfl B 3 ii _ 1 8 Try.underlying23 hii hz0 hz1 hz2 rfl (by decide) _ _ _ rfl (HR1.out.alloc _) ⟨V.heap.size, 0, none⟩ 1 1 [.int .i64 x] rfl rfl (cell_one_new _ _ _) (by simp [Value.oneCell']) (by omega) q3 q4 (by rw [World.size_alloc]; omega) (V.heap.size + 1) (by simp) ?_; intro g1 cp1 V4 hown1 hgrow1 hat1 hlt1; have H4 := Lib.hid (HJ.out.push1 hgrow1 hat1 (by rw [HS.out.2.2.1]; exact hown1)); have e2 := HC2.out V4 H4.out.kept; have hr2 := H4.out.r2; rw [HS.out.2.2.2] at hr2; have HR2 := Lib.hid hr2; have q6 := H4.out.le; clear hown1 hgrow1 hat1 hlt1 hr2 HJ)
        | (at_builtin; refine wpList_append_lies _ rfl _ _ 23 rfl B 3 ii _ 1 8 Try.underlying23 hii hz0 hz1 hz2 rfl (by decide) _ _ _ rfl (HR2.out.alloc _) ⟨V4.heap.size, 0, none⟩ 1 1 [.int .i64 y] rfl rfl (cell_one_new _ _ _) (by simp [Value.oneCell']) (by omega) q3 q4 (by rw [World.size_alloc]; omega) (V4.heap.size + 1) (by simp) ?_; intro g2 cp2 V5 hown2 hgrow2 hat2 hlt2; have H5 := Lib.hid (H4.out.push2 hgrow2 hat2 (by rw [HS.out.2.2.2]; exact hown2)); clear hown2 hgrow2 hat2 hlt2 H4))
      rw [HS.out.2.2.1, HS.out.2.2.2, ← HS.out.1, ← HS.out.2.1] at H5
      clear HS HC2 e1 e2 HR1 HR2 q3 q4 q5 q6
      go_roundw
      case rel => exact ⟨j + 1, _, _, _, rfl, rfl, rfl, by omega, by go_num, H5⟩
      case measure => simp only [intOf]; omega
    · obtain rfl : j = len := by omega
      have d1 : ¬ (j : Int) < (j : Int) := by omega
      clear hlt hj
      obtain ⟨r, hr⟩ : ∃ r : Bool, r = true ↔ goodE es z := by
        by_cases h : goodE es z
        · exact ⟨true, fun _ => h, fun _ => rfl⟩
        · exact ⟨false, (fun e => by cases e), fun e => absurd e h⟩
      have hkw := HK3.out.1.go (HJ.out.kept.mono fun k (hk : k < w3.heap.size) => by rw [HZ.out] at hk; exact hk)
      have hE1 : es.take j = es := List.take_of_length_le (by rw [WA.out.1]; exact Nat.le_refl _)
      have hJ := HJ.out
      rw [hE1] at hJ
      have hlm1 : (es.map Prod.fst).length = j := by rw [List.length_map]; exact WA.out.1
      have hlm2 : (es.map Prod.snd).length = j := by rw [List.length_map]; exact WA.out.1
      have hr1 := hJ.r1
      have hr2 := hJ.r2
      obtain ⟨a1, c1, hv1⟩ := row_sliceI hr1
      obtain ⟨a2, c2, hv2⟩ := row_sliceI hr2
      rw [hv1] at hr1 HJ
      rw [hv2] at hr2 HJ
      have hi1 := rowIntsL hr1 (by rw [hlm1]; unfold maxLen; omega)
      have hi2 := rowIntsL hr2 (by rw [hlm2]; unfold maxLen; omega)
      rw [hlm1] at hv1
      rw [hlm2] at hv2
      subst hv1
      subst hv2
      have HG1 := Lib.hid fun V' (hk : KeptIn (· < V.heap.size) V V') => maGood a cap es z r V' (WA.out.2.old (hkw.go hk)) (by rw [WA.out.1]; omega) hr
      have HG2 := Lib.hid fun V' (hk : KeptIn (· < V.heap.size) V V') => r12Good a1 a2 c1 c2 es z r V' ⟨hi1.len, fun hp => by
        obtain ⟨bk, off, e, hb, hc⟩ := hi1.cells hp
        exact ⟨bk, off, e, Nat.lt_of_lt_of_le hb hk.size, fun i hi => (World.cell?_of_block (a := ⟨bk, off + i, none⟩) (hk.block bk hb)).trans (hc i hi)⟩⟩ ⟨hi2.len, fun hp => by
        obtain ⟨bk, off, e, hb, hc⟩ := hi2.cells hp
        exact ⟨bk, off, e, Nat.lt_of_lt_of_le hb hk.size, fun i hi => (World.cell?_of_block (a := ⟨bk, off + i, none⟩) (hk.block bk hb)).trans (hc i hi)⟩⟩ (by rw [WA.out.1]; omega) hr
      rw [WA.out.1] at HG1 HG2
      have HKV := Lib.hid hkw
      clear hkw hE1 hJ hlm1 hlm2 hr1 hr2 hi1 hi2 hr HJ
      go_upto_region 16 with (first
        | (go_at_call 26; refine (HG1.out _ (KeptIn.refl _ _)).mono ?_; rintro e V1 ⟨rfl, hk1⟩; have HK1 := Lib.hid hk1; clear hk1)
        | (go_at_call 27; refine (HG2.out _ HK1.out).mono ?_; rintro e V2 ⟨rfl, hk2⟩; have HK2 := Lib.hid (HKV.out.go (HK1.out.go hk2)); clear hk2))
      obtain ⟨s, hs⟩ : ∃ s, V2.heap.size = s := ⟨_, rfl⟩
      obtain ⟨X1, hX1⟩ : ∃ X1, V2.alloc (.cells #[.slice none 0 0, .int .i64 200] 30) = X1 := ⟨_, rfl⟩
      have ht := tn_new12 V2 200 (by decide) X1 hX1.symm
      have hx1 : X1.heap.size = s + 1 := by rw [← hX1, World.size_alloc, hs]
      rw [hs] at ht
      have HT := Lib.hid (And.intro ht (And.intro hx1 hs))
      rw [hX1]
      simp only [hs]
      clear hX1 ht HG1 HG2 HKV HK1
      obtain ⟨u, hu⟩ : ∃ u, X1.heap.size = u := ⟨_, rfl⟩
      have HU := Lib.hid hu
      clear hs hx1
      go_wp2_with (first | (refine wpList_build_row12 rfl rfl ?_) | (refine wpList_alloc_row12 rfl rfl ?_))
      intro X2 hr2 hk2 hz2
      clear hu
      have HR2 := Lib.hid (And.intro hr2 (And.intro hk2 hz2))
      clear hr2 hk2 hz2
      go_wp2_with (refine wpList_store_row12 rfl _ _ rfl u zerosM zerosM rfl rfl zerosM_length zerosM_length HR2.out.1 ?_)
      intro X3 hr3 hk3 hz3
      have HG0 : Hid (Gd2 w V2 s u 0 0 false [] [] X3) := Lib.hid (by
        have hus : u = s + 1 := by rw [← HU.out]; exact HT.out.2.1
        have hk4 : KeptIn (· < X1.heap.size) X1 X2 := by rw [HU.out]; exact HR2.out.2.1
        exact ⟨(HT.out.1.old hk4).storeM HR2.out.1 (by rw [HT.out.2.2]; omega) hk3, Nat.zero_le _, Nat.le_refl _, hr3, ⟨by rw [HT.out.2.2]; omega, by omega⟩, Nat.le_of_eq HT.out.2.2, ⟨(fun h => by cases h), fun ⟨p, hp, _⟩ => by cases hp⟩, HK2.out⟩)
      clear hr3 hk3 hz3 HR2 HU HT HK2 g3 g7 WA d1 hii hz0 hz1 hz2 HZ HW HK3
      go_wp2_with fail
      go_loopw [11, 13, 14, 15, 16] (fun r o i _ _ wr => ∃ (t root : Nat) (odd : Bool) (U : World) (qs : Pairs) (N : List Nd), U = wr ∧ t ≤ len2 ∧ i = .int .i64 (t : Int) ∧ r = .int .i64 (root : Int) ∧ o = .bool odd ∧ Hid (Gd2 w V2 s u t root odd qs N U)) (fun _ _ i _ _ _ => len2 - (intOf i).toNat)
      case atStart => exact ⟨0, 0, false, _, _, _, rfl, Nat.zero_le _, rfl, rfl, rfl, HG0⟩
      case round =>
        obtain ⟨t, root, odd, U, qs, N, rfl, ht, rfl, rfl, rfl, HJ⟩ := hrel
        clear HG0
        have t0 : (0 : Int) ≤ (t : Int) := by omega
        by_cases hlt : t < len2
        · have t1 : (t : Int) < (len2 : Int) := by omega
          have hkw := HJ.out.kw.go HJ.out.tr.kw12
          obtain ⟨bb, oo, rfl, hbb, hc⟩ := WB.out.2.cells (by rw [WB.out.1]; omega)
          obtain ⟨c1, c2⟩ := hc t (by rw [WB.out.1]; exact hlt)
          have hft := WB.out.2.fits.at (i := t) (by rw [WB.out.1]; exact hlt)
          have hbs : bb < s := by have := HJ.out.kw.size; have := HJ.out.tr.slt12; have h3 := HJ.out.ss; omega
          obtain ⟨kk, hkk⟩ : ∃ kk, keyAt ps t = kk := ⟨_, rfl⟩
          obtain ⟨vv, hvv⟩ : ∃ vv, valAt ps t = vv := ⟨_, rfl⟩
          rw [hkk] at c1 hft
          rw [hvv] at c2 hft
          have e1 := (World.cell?_of_block (a := ⟨bb, oo + t * 2, none⟩) (hkw.block bb hbb)).trans c1
          have e2 := (World.cell?_of_block (a := ⟨bb, oo + t * 2 + 1, none⟩) (hkw.block bb hbb)).trans c2
          have HALL : Hid (∀ V', Fr8 s U V' → V'.cell? ⟨bb, oo + t * 2, none⟩ = some (.int .u64 (kk : Int)) ∧ V'.cell? ⟨bb, oo + t * 2 + 1, none⟩ = some (.int .u64 (vv : Int))) := Lib.hid fun V' hf => ⟨(World.cell?_of_block (a := ⟨bb, oo + t * 2, none⟩) (hf.block bb ⟨Nat.lt_of_lt_of_le hbb hkw.size, by omega⟩)).trans e1, (World.cell?_of_block (a := ⟨bb, oo + t * 2 + 1, none⟩) (hf.block bb ⟨Nat.lt_of_lt_of_le hbb hkw.size, by omega⟩)).trans e2⟩
          have HC := Lib.hid fun V' (hV : KeptIn (· < U.heap.size) U V') => gd_put HJ.out (by omega) hft.1 hft.2 hV
          unfold pgV at HC
          clear hc c1 c2 hkk hvv hbb hkw hbs hft
          go_wp2_with fail
          go_region_held3 (fun w' => w'.cell? ⟨bb, oo + t * 2, none⟩ = some (.int .u64 (kk : Int)) ∧ w'.cell? ⟨bb, oo + t * 2 + 1, none⟩ = some (.int .u64 (vv : Int)))
            (first | exact ⟨e1, e2⟩ | exact HALL.out _ k8 | exact HALL.out _ k8.drew)
            (first | (go_at_call 16; refine (HC.out _ (by first | exact KeptIn.refl _ _ | exact (KeptIn.refl _ _).drew)).mono ?_; rintro e V8 ⟨r8, N8, rfl, k8, hg8⟩))
          obtain ⟨e3, e4⟩ := HALL.out _ k8
          have HG8 := Lib.hid hg8
          clear k8 hg8 HALL HC HJ e1 e2 e4
          by_cases h63 : 63 < kk
          · have q1 : (63 : Int) < (kk : Int) := by omega
            rw [decide_eq_true h63, Bool.or_true] at HG8
            clear h63
            go_wp2_with fail
            go_roundw
            case rel => exact ⟨t + 1, _, true, _, _, _, rfl, by omega, by go_num, rfl, rfl, HG8⟩
            case measure => simp only [intOf]; omega
          · have q1 : ¬ (63 : Int) < (kk : Int) := by omega
            rw [decide_eq_false h63, Bool.or_false] at HG8
            clear h63
            go_wp2_with fail
            go_roundw
            case rel => exact ⟨t + 1, _, odd, _, _, _, rfl, by omega, by go_num, rfl, rfl, HG8⟩
            case measure => simp only [intOf]; omega
        · obtain rfl : t = len2 := by omega
          have t1 : ¬ (t : Int) < (t : Int) := by omega
          clear hlt ht
          have HRG := Lib.hid (tmRange HJ.out.tr.m 0 63 (by decide) (by decide) (by have := HJ.out.ql; omega))
          obtain ⟨rs, hrs⟩ : ∃ rs, rng 0 63 qs = rs := ⟨_, rfl⟩
          rw [hrs] at HRG
          have HRS := Lib.hid hrs
          unfold pgV at HRG
          clear hrs
          go_wp2_with fail
          refine HRG.out.mono ?_
          rintro e V3 ⟨pv, rfl, hrow, hfit, hk3⟩
          obtain ⟨ap, cp, rfl, -⟩ := row_slice hrow
          have hap : ∀ p, ap = some p → p.block < V3.heap.size ∧ p.block ≠ u := fun p e => by
            rcases hrow.2 with ⟨e1, _⟩ | ⟨g, cap', cur, e1, hgg, hb, _⟩
            · simp only [Value.slice.injEq] at e1
              rw [e1.1] at e
              cases e
            · simp only [Value.slice.injEq] at e1
              rw [e1.1] at e
              cases e
              have := HJ.out.row.lt
              exact ⟨(Array.getElem?_eq_some_iff.1 hb).1, by show g ≠ u; omega⟩
          have hsr : Srt rs := by rw [← HRS.out]; exact List.Pairwise.filter _ HJ.out.tr.m.srt
          have hk63 : ∀ i, i < rs.length → keyAt rs i ≤ 63 := fun i hi => by
            have : rs[i] ∈ rng 0 63 qs := by rw [HRS.out]; exact List.getElem_mem hi
            unfold rng at this
            rw [List.mem_filter] at this
            rw [keyAt_get hi]
            simpa using this.2
          have hlr : rs.length ≤ 20 := by
            rw [← HRS.out]
            have := HJ.out.ql
            unfold rng
            exact Nat.le_trans (List.length_filter_le _ _) (by omega)
          have hq3 := HJ.out.old hk3
          have HX0 : Hid (Gd3 w V2 s u t root qs rs N ap 0 odd V3) := Lib.hid ⟨hq3.tr, row_IsPs hrow hfit, hap, ⟨zerosM, zerosM_length, hq3.row, fun _ => zerosM_row⟩, by
            rw [hq3.odd]
            constructor
            · exact .inl
            · rintro (h | ⟨p, hp, _⟩)
              · exact h
              · simp at hp, hq3.su.1, hq3.kw⟩
          have HQ := Lib.hid (And.intro hsr (And.intro hk63 (And.intro HRS.out hq3.ql)))
          obtain ⟨n, hn⟩ : ∃ n, rs.length = n := ⟨_, rfl⟩
          have hnI : (n : Int) ≤ 20 := by omega
          have HN := Lib.hid hn
          rw [hn]
          clear hrow hfit hk3 hap hsr hk63 hlr hq3 hn HRG HJ
          go_wp2_with fail
          go_loopw [13, 19] (fun o i wr => ∃ (k : Nat) (od : Bool) (U2 : World), U2 = wr ∧ k ≤ n ∧ i = .int .i64 (k : Int) ∧ o = .bool od ∧ Hid (Gd3 w V2 s u t root qs rs N ap k od U2)) (fun _ i _ => n - (intOf i).toNat)
          case atStart => exact ⟨0, odd, _, rfl, Nat.zero_le _, rfl, rfl, HX0⟩
          case round =>
            obtain ⟨k, od, U2, rfl, hk, rfl, rfl, HJ⟩ := hrel
            clear HX0
            have k0 : (0 : Int) ≤ (k : Int) := by omega
            by_cases hlt : k < n
            · have k1 : (k : Int) < (n : Int) := by omega
              have hkl : k < rs.length := by rw [HN.out]; exact hlt
              obtain ⟨bb, oo, rfl, hbb, hc⟩ := HJ.out.ps.cells (by omega)
              obtain ⟨c1, c2⟩ := hc k hkl
              have h63 := HQ.out.2.1 k hkl
              have hfv := (HJ.out.ps.fits.at hkl).2
              have HBAD := Lib.hid fun hv => HJ.out.bad hkl hv
              have HGOOD := Lib.hid fun (l : List Nat) (W' : World) hv h1 h2 h3 h4 h5 => HJ.out.good (W' := W') (l := l) hkl HQ.out.1 hv h1 h2 h3 h4 h5
              obtain ⟨kk, hkk⟩ : ∃ kk, keyAt rs k = kk := ⟨_, rfl⟩
              obtain ⟨vv, hvv⟩ : ∃ vv, valAt rs k = vv := ⟨_, rfl⟩
              rw [hkk] at c1 h63 HGOOD
              rw [hvv] at c2 HBAD HGOOD hfv
              have v0 : (0 : Int) ≤ (vv : Int) := by omega
              clear hc hkk hvv hbb hkl
              by_cases hv : 1 ≤ vv ∧ vv ≤ 1023
              · have q1 : ¬ (vv : Int) < 1 := by omega
                have q2 : decide ((vv : Int) < 1) = false := decide_eq_false q1
                have q3 : ¬ (1023 : Int) < (vv : Int) := by omega
                have q4 : decide ((1023 : Int) < (vv : Int)) = false := decide_eq_false q3
                have q5 : wrap64 (vv : Int) = (vv : Int) := by unfold wrap64; omega
                have q6 : IntKind.i64.wrap (vv : Int) = (vv : Int) := by rw [IntKind.wrap_i64]; omega
                have q7 : (0 : Int) ≤ (kk : Int) := by omega
                have q8 : (kk : Int) < 64 := by omega
                obtain ⟨l, r1, r2, r3⟩ := HJ.out.row
                have f1 : U2.cell? ⟨u, kk, none⟩ = some (iv (l.getD kk 0)) := r2.cell kk (by rw [List.getD_eq_getElem?_getD, List.getElem?_eq_getElem (by omega)]; rfl)
                have f2 := r2.fro kk
                have HY : Hid (∀ q : Nat, Gd3 w V2 s u t root qs rs N (some ⟨bb, oo, none⟩) (k + 1) od ((U2.setCell ⟨u, kk, none⟩ (.int .i64 (vv : Int))).drewN q)) := Lib.hid fun q => HGOOD.out l _ hv r1 r2 r3 (((KeptIn.refl _ U2).setCell (p := ⟨u, kk, none⟩) (by simp) _).drewN q) ((r2.set kk vv).kept rfl)
                clear HBAD HGOOD HJ hfv hv h63 r1 r2 r3
                go_wp2_with fail
                go_region
                have HY2 := Lib.hid (HY.out 1)
                clear HY f1 f2
                go_wp2_with fail
                go_roundw
                case rel => exact ⟨k + 1, od, _, rfl, by omega, by go_num, rfl, HY2⟩
                case measure => simp only [intOf]; omega
              · have HY := Lib.hid (HBAD.out hv)
                clear HGOOD HBAD HJ
                by_cases hv1 : vv < 1
                · have q1 : (vv : Int) < 1 := by omega
                  clear hv hv1 hfv
                  go_wp2_with fail
                  go_roundw
                  case rel => exact ⟨k + 1, true, _, rfl, by omega, by go_num, rfl, HY⟩
                  case measure => simp only [intOf]; omega
                · have q1 : ¬ (vv : Int) < 1 := by omega
                  have q2 : decide ((vv : Int) < 1) = false := decide_eq_false q1
                  have q3 : (1023 : Int) < (vv : Int) := by omega
                  clear hv hv1 hfv
                  go_wp2_with fail
                  go_roundw
                  case rel => exact ⟨k + 1, true, _, rfl, by omega, by go_num, rfl, HY⟩
                  case measure => simp only [intOf]; omega
            · have hkn : k = n := by omega
              subst hkn
              have k1 : ¬ (k : Int) < (k : Int) := by omega
              have hfin := HJ.out
              rw [← HN.out] at hfin
              obtain ⟨hf1, hf2⟩ := hfin.fin HQ.out.2.2.1.symm
              have HL := Lib.hid (maList HJ.out.tr.m (by have := HQ.out.2.2.2; omega))
              have HKW := Lib.hid (HJ.out.kw.go HJ.out.tr.kw12)
              unfold pgV at HL
              clear hlt hk hfin
              cases od with
              | true =>
                have hng : ¬ GoodM qs := fun hg => by have := hf1.2 hg; cases this
                have HL2 := Lib.hid (HL.out.mono fun e w' hR => hR.resolve_left fun h => hng h.1)
                clear HL hf1 hf2 hng
                go_wp2_with fail
                refine HL2.out.mono ?_
                rintro e V4 ⟨-, rfl, hk4⟩
                have HE := Lib.hid (HKW.out.go hk4)
                clear hk4 HL2
                go_wp2_with fail
                go_ret
                exact ⟨rfl, HE.out⟩
              | false =>
                have hg := hf1.1 rfl
                have hrq := hf2 hg
                have HG := Lib.hid hg
                obtain ⟨l, r1, r2, r3⟩ := HJ.out.row
                have hl : l = rowU qs := by
                  rw [r3 (hg.sub fun p hp => by rw [← hrq]; exact List.mem_of_mem_take hp), List.take_of_length_le (by rw [HN.out]; exact Nat.le_refl _), hrq]
                rw [hl] at r1 r2
                have HL2 := Lib.hid (maListG HJ.out.tr.m hg (by have := HQ.out.2.2.2; omega))
                have HS := Lib.hid HJ.out.tr.m.srt
                have HR := Lib.hid (And.intro r1 r2)
                obtain ⟨nq, hnq⟩ : ∃ nq, qs.length = nq := ⟨_, rfl⟩
                have HNQ := Lib.hid hnq
                have hql : qs.length ≤ 1000 := by have := HQ.out.2.2.2; omega
                have HQL := Lib.hid hql
                unfold pgV at HL2
                rw [hnq] at HL2
                clear HL hf1 hf2 hg hrq r1 r2 r3 hl hnq hql
                go_wp2_with fail
                refine HL2.out.mono ?_
                rintro e V4 ⟨al, cl, rfl, hls, hk4⟩
                have HE := Lib.hid (HKW.out.go hk4)
                have HR4 := Lib.hid (HR.out.2.kept (hk4.block u HR.out.2.lt))
                have hsame := maSame al cl qs HS.out HG.out V4 hls.1 HQL.out
                rw [HNQ.out] at hsame
                have HSM := Lib.hid hsame
                clear hk4 HL2 hls hsame HR
                go_wp2_with (first
                  | (refine wpList_load_row12g _ rfl (by rfl) u (rowU qs) rfl (rowU_length qs) HR4.out ?_)
                  | (go_at_call 21; refine HSM.out.mono ?_; rintro e V5 ⟨rfl, hk5⟩; have HE5 := Lib.hid (HE.out.go hk5); clear hk5))
                go_ret
                exact ⟨rfl, HE5.out⟩

end Go.Proofs.Ytbnpabpkaebojaa
