import Derived.Test.YtbnpabpkaebojaaAp12L
import Derived.Deep.Cut
import Derived.Deep.CutRange
import Derived.Deep.CutBlock
/- MapsApart of layer 12: the walk: it returns true for every input and writes nothing that was there. -/
set_option linter.unusedVariables false
namespace Go.Proofs.Ytbnpabpkaebojaa
open Go.RowKit

/-- What stands in the first loop. -/
def Ap1 (w3 : World) (s j root : Nat) (qs : Pairs) (N : List Nd) (W : World) : Prop := TrN w3 s 511 root qs (8 + j) N W ∧ GoodM qs ∧ N.length ≤ 5 * j ∧ qs.length ≤ j
/-- What stands in the second loop. -/
structure Ap2 (w3 : World) (s n1 j ra rb rc : Nat) (again : Bool) (pa pb : Pairs) (wa : Option Addr) (zs : List Int) (N : List Nd) (W : World) : Prop where
  tb : TrN w3 s 511 rb pb (8 + n1 + j) N W
  ta : TrI N ra pa (8 + n1)
  tc : TrI N rc (cond again pb pa) (8 + n1 + j)
  gb : GoodM pb
  ga : GoodM pa
  nl : N.length ≤ 5 * n1 + 10 * j
  ls : LsE W s wa (esOf pa)
  la : pa.length ≤ n1
  lb : pb.length ≤ n1 + j
  hi : ∀ i, i < j → 100 ≤ lookM pb (kOf (zs.getD i 0))
theorem Ap2.old {w3 W W' : World} {s n1 j ra rb rc : Nat} {again : Bool} {pa pb : Pairs} {wa : Option Addr} {zs : List Int} {N : List Nd} (h : Ap2 w3 s n1 j ra rb rc again pa pb wa zs N W) (hk : KeptIn (· < W.heap.size) W W') : Ap2 w3 s n1 j ra rb rc again pa pb wa zs N W' :=
  ⟨h.tb.old hk, h.ta, h.tc, h.gb, h.ga, h.nl, h.ls.old hk, h.la, h.lb, h.hi⟩

theorem ap_hi {pb : Pairs} {zs : List Int} {j v k : Nat} (hs : Srt pb) (h : ∀ i, i < j → 100 ≤ lookM pb (kOf (zs.getD i 0))) (hv : 100 ≤ v) (hk : kOf (zs.getD j 0) = k) : ∀ i, i < j + 1 → 100 ≤ lookM (chg [(k, v)] k pb) (kOf (zs.getD i 0)) := by
  intro i hi
  rw [lookM_put hs (srt_put hs)]
  split
  · exact hv
  · rename_i hne
    rcases Nat.lt_or_ge i j with h1 | h1
    · exact h i h1
    · obtain rfl : i = j := by omega
      exact absurd hk hne
theorem ap_room {m n : Nat} (h : min 511 511 ≤ n) (h2 : n ≤ m) (h3 : m ≤ 500) : False := by omega

/-- What stands behind the loops. -/
structure Ap3 (w3 w : World) (s rb : Nat) (pb : Pairs) (zs : List Int) (n2 n1 : Nat) (N : List Nd) (W : World) : Prop where
  tb : TrN w3 s 511 rb pb 127 N W
  kept : KeptIn (· < w.heap.size) w W
  gb : GoodM pb
  hi : ∀ i, i < n2 → 100 ≤ lookM pb (kOf (zs.getD i 0))
theorem Ap3.old {w3 w W W' : World} {s rb n2 n1 : Nat} {pb : Pairs} {zs : List Int} {N : List Nd} (h : Ap3 w3 w s rb pb zs n2 n1 N W) (hk : KeptIn (· < W.heap.size) W W') : Ap3 w3 w s rb pb zs n2 n1 N W' := ⟨h.tb.old hk, h.kept.go hk, h.gb, h.hi⟩
theorem Ap3.drewN {w3 w W : World} {s rb n2 n1 : Nat} {pb : Pairs} {zs : List Int} {N : List Nd} (h : Ap3 w3 w s rb pb zs n2 n1 N W) (n : Nat) : Ap3 w3 w s rb pb zs n2 n1 N (W.drewN n) := h.old ((KeptIn.refl _ _).drewN n)




set_option maxHeartbeats 16000000 in
set_option maxRecDepth 100000 in
theorem apaW (a : Option Addr) (len cap : Nat) (ys : List Int) (b : Option Addr) (len2 cap2 : Nat) (zs : List Int) (again : Bool) (w : World) (w0 : IsRow .i64 w a len cap ys) (w1 : IsRow .i64 w b len2 cap2 zs) :
    Calls Try.prog 8 #[.slice a len cap, .slice b len2 cap2, .bool again] w fun e w' => e = .returned (.bool true) ∧ KeptIn (· < w.heap.size) w w' := by
  have l0 := w0.len_le
  have l1 := w1.len_le
  unfold maxLen at l0 l1
  have b0 : (len : Int) ≤ 9223372036854775807 := by omega
  have b1 : (len2 : Int) ≤ 9223372036854775807 := by omega
  have WA := Lib.hid w0
  have WB := Lib.hid w1
  clear w0 w1 l0 l1
  by_cases hbig : 30 < len
  · have g1 : (30 : Int) < (len : Int) := by omega
    go_enter Try.func8, Try.ntmps8
    go_wp2_with fail
    refine (awake12 w).mono ?_
    rintro e w3 ⟨rfl, k3⟩
    go_wp2_with fail
    go_ret
    exact ⟨rfl, k3⟩
  have g1 : ¬ (30 : Int) < (len : Int) := by omega
  have g2 : decide ((30 : Int) < (len : Int)) = false := decide_eq_false g1
  have g3 : len ≤ 30 := by omega
  clear hbig
  by_cases hbig : 30 < len2
  · have g4 : (30 : Int) < (len2 : Int) := by omega
    go_enter Try.func8, Try.ntmps8
    go_wp2_with fail
    refine (awake12 w).mono ?_
    rintro e w3 ⟨rfl, k3⟩
    go_wp2_with fail
    go_ret
    exact ⟨rfl, k3⟩
  have g4 : ¬ (30 : Int) < (len2 : Int) := by omega
  have g5 : decide ((30 : Int) < (len2 : Int)) = false := decide_eq_false g4
  have g6 : len2 ≤ 30 := by omega
  clear hbig
  go_enter Try.func8, Try.ntmps8
  go_wp2_with fail
  refine (awake12 w).mono ?_
  rintro e w3 ⟨rfl, k3⟩
  obtain ⟨W1, hW1⟩ : ∃ W1, w3.alloc (.cells #[.slice none 0 0, .int .i64 511] 30) = W1 := ⟨_, rfl⟩
  have ht := tn_new12 w3 511 (by decide) W1 hW1.symm
  obtain ⟨s, hs⟩ : ∃ s, w3.heap.size = s := ⟨_, rfl⟩
  rw [hs] at ht
  have HI0 : Hid (Ap1 w3 s 0 0 [] [] W1) := Lib.hid ⟨ht, goodM_nil, Nat.zero_le _, Nat.le_refl _⟩
  have HK3 := Lib.hid (And.intro k3 hs)
  have HW := Lib.hid (And.intro hW1 hs)
  clear ht hs hW1 k3
  go_wp2_with fail
  rw [HW.out.1]
  simp only [HW.out.2]
  clear g1 g2 g4 g5
  go_loopw [8, 9, 10, 11] (fun r i _ _ wr => ∃ (j root : Nat) (V : World) (qs : Pairs) (N : List Nd), V = wr ∧ j ≤ len ∧ i = .int .i64 (j : Int) ∧ r = .int .i64 (root : Int) ∧ Hid (Ap1 w3 s j root qs N V)) (fun _ i _ _ _ => len - (intOf i).toNat)
  case atStart => exact ⟨0, 0, _, _, _, rfl, Nat.zero_le _, rfl, rfl, HI0⟩
  case round =>
    obtain ⟨j, root, V, qs, N, rfl, hj, rfl, rfl, HJ⟩ := hrel
    clear HI0
    have d0 : (0 : Int) ≤ (j : Int) := by omega
    by_cases hlt : j < len
    · have d1 : (j : Int) < (len : Int) := by omega
      have hkw := HK3.out.1.go HJ.out.1.kw12
      obtain ⟨bb, oo, rfl, hbb, hc⟩ := WA.out.elem (by omega)
      have c1 := (World.cell?_of_block (a := ⟨bb, oo + j, none⟩) (hkw.block bb hbb)).trans (hc j hlt).1
      have HS := Lib.hid (kOf_spec (ys.getD j 0))
      obtain ⟨xx, hxx⟩ : ∃ xx, ys.getD j 0 = xx := ⟨_, rfl⟩
      rw [hxx] at c1 HS
      obtain ⟨kk, hkk⟩ : ∃ kk, kOf xx = kk := ⟨_, rfl⟩
      rw [hkk] at HS
      have kl := HS.out.1
      obtain ⟨v, hv, v1, v2⟩ := ap_num 1 j (by omega) (by omega)
      rw [show ((1 : Nat) : Int) = 1 from rfl] at v1 v2
      have HV1 := Lib.hid v1
      clear v1
      have HC := Lib.hid (maSet (k := kk) (v := v) HJ.out.1 (by omega) (by omega) kl (by omega) (by omega))
      have HKV := Lib.hid (And.intro kl hv)
      unfold pgV at HC
      clear hc hbb hkw hxx hkk kl hv
      have kw := HS.out.2
      have v1 := HV1.out
      go_wp2_with fail
      refine HC.out.mono ?_
      rintro e V2 ⟨r, er, M, rfl, hM, hfr, hor⟩
      clear kw v1
      rcases hor with ⟨_, _, _, h⟩ | ⟨rfl, ht⟩
      · exfalso
        have := HJ.out.2.2.1
        rw [List.length_append] at h
        exact ap_room h (show N.length + M.length ≤ 200 by omega) (by omega)
      have HJ2 : Hid (Ap1 w3 s (j + 1) r (chg [(kk, v)] kk qs) (N ++ M) V2) := Lib.hid ⟨ht.mono (by omega), goodM_put HJ.out.2.1 HKV.out.1 (by have := HKV.out.2; omega) (by have := HKV.out.2; omega), by rw [List.length_append]; have := HJ.out.2.2.1; omega, Nat.le_trans (len_put _ _ _) (by have := HJ.out.2.2.2; omega)⟩
      clear ht hfr hM HC c1 v2 HJ HKV HS HV1
      go_wp2_with fail
      go_roundw
      case rel => exact ⟨j + 1, _, _, _, _, rfl, by omega, by go_num, rfl, HJ2⟩
      case measure => simp only [intOf]; omega
    · obtain rfl : j = len := by omega
      have d1 : ¬ (j : Int) < (j : Int) := by omega
      clear hlt hj
      have HL := Lib.hid (maListG HJ.out.1.m HJ.out.2.1 (by have := HJ.out.2.2.2; omega))
      unfold pgV at HL
      go_wp2_with fail
      refine HL.out.mono ?_
      rintro e V1 ⟨wa, wc, rfl, hls, hk1⟩
      obtain ⟨n9, hn9⟩ : ∃ n9, qs.length = n9 := ⟨_, rfl⟩
      have HN9 := Lib.hid hn9
      have HX0 : Hid (Ap2 w3 s j 0 root root root again qs qs wa zs N V1) := Lib.hid ⟨HJ.out.1.old hk1, HJ.out.1.tri, by cases again <;> exact HJ.out.1.tri, HJ.out.2.1, HJ.out.2.1, HJ.out.2.2.1, hls, HJ.out.2.2.2, HJ.out.2.2.2, fun i hi => absurd hi (by omega)⟩
      obtain ⟨n1, hn1⟩ : ∃ n1, j = n1 := ⟨_, rfl⟩
      rw [hn9]
      clear hls hk1 HL HJ
      have hn30 : n1 ≤ 30 := by omega
      rw [hn1] at HX0
      clear hn1 d1 g3 d0
      go_wp2_with fail
      go_loopw [14, 15, 16, 17, 18, 19] (fun p q i _ _ _ wr => ∃ (t rb rc : Nat) (U : World) (pb : Pairs) (N : List Nd), U = wr ∧ t ≤ len2 ∧ i = .int .i64 (t : Int) ∧ p = .int .i64 (rb : Int) ∧ q = .int .i64 (rc : Int) ∧ Hid (Ap2 w3 s n1 t root rb rc again qs pb wa zs N U)) (fun _ _ i _ _ _ _ => len2 - (intOf i).toNat)
      case atStart => exact ⟨0, root, root, _, _, _, rfl, Nat.zero_le _, rfl, rfl, rfl, HX0⟩
      case round =>
        obtain ⟨t, rb, rc, U, pb, N, rfl, ht, rfl, rfl, rfl, HJ⟩ := hrel
        clear HX0
        have d0 : (0 : Int) ≤ (t : Int) := by omega
        by_cases hlt : t < len2
        · have d1 : (t : Int) < (len2 : Int) := by omega
          have hkw := HK3.out.1.go HJ.out.tb.kw12
          obtain ⟨bb, oo, rfl, hbb, hc⟩ := WB.out.elem (by omega)
          have c1 := (World.cell?_of_block (a := ⟨bb, oo + t, none⟩) (hkw.block bb hbb)).trans (hc t hlt).1
          have HS := Lib.hid (kOf_spec (zs.getD t 0))
          obtain ⟨xx, hxx⟩ : ∃ xx, zs.getD t 0 = xx := ⟨_, rfl⟩
          have hko : kOf (zs.getD t 0) = kOf xx := by rw [hxx]
          rw [hxx] at c1 HS
          obtain ⟨kk, hkk⟩ : ∃ kk, kOf xx = kk := ⟨_, rfl⟩
          rw [hkk] at HS hko
          have kl := HS.out.1
          obtain ⟨v, hv, v1, v2⟩ := ap_num 100 t (by omega) (by omega)
          rw [show ((100 : Nat) : Int) = 100 from rfl] at v1 v2
          have HV1 := Lib.hid v1
          clear v1
          have HC := Lib.hid (maSet (k := kk) (v := v) HJ.out.tb (by omega) (by omega) kl (by omega) (by omega))
          have HKV := Lib.hid (And.intro kl (And.intro hv hko))
          unfold pgV at HC
          clear hc hbb hkw hxx hkk kl hv hko
          have kw := HS.out.2
          have v1 := HV1.out
          go_wp2_with fail
          refine HC.out.mono ?_
          rintro e V2 ⟨r, er, M, rfl, hM, hfr, hor⟩
          clear kw v1
          rcases hor with ⟨_, _, _, h⟩ | ⟨rfl, hT⟩
          · exfalso
            have := HJ.out.nl
            rw [List.length_append] at h
            exact ap_room h (show N.length + M.length ≤ 500 by omega) (by omega)
          have hgb := goodM_put HJ.out.gb HKV.out.1 (show 1 ≤ v by have := HKV.out.2.1; omega) (show v ≤ 1023 by have := HKV.out.2.1; omega)
          have hhi := ap_hi (v := v) HJ.out.tb.m.srt HJ.out.hi (by have := HKV.out.2.1; omega) HKV.out.2.2
          have hlb := Nat.le_trans (len_put kk v pb) (show pb.length + 1 ≤ n1 + (t + 1) by have := HJ.out.lb; omega)
          cases again with
          | false =>
            have HJ2 : Hid (Ap2 w3 s n1 (t + 1) root r rc false qs (chg [(kk, v)] kk pb) wa zs (N ++ M) V2) := Lib.hid ⟨hT.mono (by omega), HJ.out.ta.app, (HJ.out.tc.app).mono (by omega), hgb, HJ.out.ga, by rw [List.length_append]; have := HJ.out.nl; omega, HJ.out.ls.fr hfr, HJ.out.la, hlb, hhi⟩
            clear hT hfr hM HC c1 v2 HJ HKV hgb hhi hlb HS HV1
            go_wp2_with fail
            go_roundw
            case rel => exact ⟨t + 1, _, _, _, _, _, rfl, by omega, by go_num, rfl, rfl, HJ2⟩
            case measure => simp only [intOf]; omega
          | true =>
            have hTc : TrN w3 s 511 rc pb (8 + n1 + t) (N ++ M) V2 := hT.swap HJ.out.tc.app
            have HC2 := Lib.hid (maSet (k := kk) (v := v) hTc (by omega) (by omega) HKV.out.1 (by have := HKV.out.2.1; omega) (by have := HKV.out.2.1; omega))
            have HT := Lib.hid (And.intro hT.tri (And.intro (HJ.out.ls.fr hfr) (And.intro hgb (And.intro hhi (And.intro hlb hM)))))
            unfold pgV at HC2
            clear hT hfr hM HC hTc hgb hhi hlb
            have v1 := HV1.out
            have kw := HS.out.2
            go_wp2_with fail
            refine HC2.out.mono ?_
            rintro e V3 ⟨r2, er2, M2, rfl, hM2, hfr2, hor2⟩
            clear v1 kw
            rcases hor2 with ⟨_, _, _, h⟩ | ⟨rfl, hT2⟩
            · exfalso
              have := HJ.out.nl
              have := HT.out.2.2.2.2.2
              rw [List.length_append, List.length_append] at h
              exact ap_room h (show N.length + M.length + M2.length ≤ 500 by omega) (by omega)
            have HJ2 : Hid (Ap2 w3 s n1 (t + 1) root r r2 true qs (chg [(kk, v)] kk pb) wa zs (N ++ M ++ M2) V3) := Lib.hid ⟨hT2.swap ((HT.out.1.app).mono (by omega)), HJ.out.ta.app.app, (hT2.tri).mono (by omega), HT.out.2.2.1, HJ.out.ga, by rw [List.length_append, List.length_append]; have := HJ.out.nl; have := HT.out.2.2.2.2.2; omega, HT.out.2.1.fr hfr2, HJ.out.la, HT.out.2.2.2.2.1, HT.out.2.2.2.1⟩
            clear hT2 hfr2 hM2 HC2 c1 v2 HJ HKV HT HS HV1
            go_wp2_with fail
            go_roundw
            case rel => exact ⟨t + 1, _, _, _, _, _, rfl, by omega, by go_num, rfl, rfl, HJ2⟩
            case measure => simp only [intOf]; omega
        · obtain rfl : t = len2 := by omega
          have d1 : ¬ (t : Int) < (t : Int) := by omega
          clear hlt ht
          obtain ⟨len2, hl2⟩ : ∃ len2, t = len2 := ⟨_, rfl⟩
          have HL1 := Lib.hid (maListG (HJ.out.tb.swap HJ.out.ta).m HJ.out.ga (by have := HJ.out.la; omega))
          unfold pgV at HL1
          go_wp2_with fail
          refine HL1.out.mono ?_
          rintro e V1 ⟨na, nc, rfl, hls, hk1⟩
          have HX1 := Lib.hid (And.intro (HJ.out.old hk1) hls)
          have HL2 := Lib.hid (maListG HX1.out.1.tb.m HX1.out.1.gb (by have := HX1.out.1.lb; omega))
          unfold pgV at HL2
          clear hls hk1 HL1 HJ
          go_wp2_with fail
          refine HL2.out.mono ?_
          rintro e V2 ⟨xa, xc, rfl, hls, hk1⟩
          have HX2 := Lib.hid (And.intro (HX1.out.1.old hk1) (And.intro (HX1.out.2.old hk1) hls))
          have hgc : GoodM (cond again pb qs) := by cases again; exact HX2.out.1.ga; exact HX2.out.1.gb
          have hlc : (cond again pb qs).length ≤ 1000 := by
            have h1 := HX2.out.1.la
            have h2 := HX2.out.1.lb
            cases again
            · show qs.length ≤ 1000; omega
            · show pb.length ≤ 1000; omega
          have HL3 := Lib.hid (maListG (HX2.out.1.tb.swap HX2.out.1.tc).m hgc hlc)
          unfold pgV at HL3
          clear hls hk1 HL2 HX1 hgc hlc
          go_wp2_with fail
          refine HL3.out.mono ?_
          rintro e V3 ⟨ya, yc, rfl, hls, hk1⟩
          have HX3 : Hid (Ap3 w3 w s rb pb zs len2 n1 N V3 ∧ LsE V3 s wa (esOf qs) ∧ LsE V3 s na (esOf qs) ∧ LsE V3 s xa (esOf pb) ∧ LsE V3 s ya (esOf (cond again pb qs))) := Lib.hid ⟨⟨(HX2.out.1.tb.old hk1).mono (by omega), HK3.out.1.go (HX2.out.1.tb.old hk1).kw12, HX2.out.1.gb, by rw [← hl2]; exact HX2.out.1.hi⟩, HX2.out.1.ls.old hk1, HX2.out.2.1.old hk1, HX2.out.2.2.old hk1, hls⟩
          obtain ⟨np, hnp⟩ : ∃ np, pb.length = np := ⟨_, rfl⟩
          have HNP := Lib.hid hnp
          have HX := HX3
          have m1 : (n9 : Int) ≤ 30 := by have := HX2.out.1.la; rw [hn9] at this; omega
          have m2 : (np : Int) ≤ 60 := by have := HX2.out.1.lb; rw [hnp] at this; omega
          have m3 : (len2 : Int) ≤ 30 := by omega
          have WB2 : Hid (IsRow .i64 w b len2 cap2 zs) := by rw [← hl2]; exact WB
          clear hls hk1 HL3 HX2 HX3 hl2
          rw [hnp]
          cases again with
          | false =>
            replace HX : Hid (Ap3 w3 w s rb pb zs len2 n1 N V3 ∧ LsE V3 s wa (esOf qs) ∧ LsE V3 s na (esOf qs) ∧ LsE V3 s xa (esOf pb) ∧ LsE V3 s ya (esOf qs)) := HX
            rw [show (bif false then pb else qs) = qs from rfl, hn9]
            clear hnp hn9
            go_wp2_with fail
            go_loopw [26] (fun i wr => ∃ (t : Nat) (U : World), U = wr ∧ t ≤ n9 ∧ i = .int .i64 (t : Int) ∧ Hid (Ap3 w3 w s rb pb zs len2 n1 N U ∧ LsE U s wa (esOf qs) ∧ LsE U s na (esOf qs) ∧ LsE U s xa (esOf pb) ∧ LsE U s ya (esOf qs))) (fun i _ => n9 - (intOf i).toNat)
            case atStart => exact ⟨0, _, rfl, Nat.zero_le _, rfl, HX⟩
            case round =>
              obtain ⟨t, U, rfl, ht, rfl, HU⟩ := hrel
              clear HX
              by_cases hlt3 : t < n9
              · have t0 : (0 : Int) ≤ (t : Int) := by omega
                have t1 : (t : Int) < (n9 : Int) := by omega
                have hel : t < ((esOf qs)).length := by rw [esOf_length, HN9.out]; exact hlt3
                obtain ⟨b2, o2, rfl, hc2⟩ := HU.out.2.1.cells (by omega)
                obtain ⟨b3, o3, rfl, hc3⟩ := HU.out.2.2.1.cells (by omega)
                obtain ⟨y0, y1⟩ := hc2 t hel
                obtain ⟨z0, z1⟩ := hc3 t hel
                obtain ⟨⟨x1, x2⟩, hv⟩ : ∃ v, atE ((esOf qs)) t = v := ⟨_, rfl⟩
                rw [hv] at y0 y1 z0 z1
                simp only at y0 y1 z0 z1
                clear hc2 hc3 hv hel
                go_wp2_with fail
                go_quiet (fail)
                go_wp2_with fail
                go_roundw
                case rel => exact ⟨t + 1, _, rfl, by omega, by go_num, Lib.hid ⟨HU.out.1.drewN nq, HU.out.2.1.old ((KeptIn.refl _ _).drewN nq), HU.out.2.2.1.old ((KeptIn.refl _ _).drewN nq), HU.out.2.2.2.1.old ((KeptIn.refl _ _).drewN nq), HU.out.2.2.2.2.old ((KeptIn.refl _ _).drewN nq)⟩⟩
                case measure => simp only [intOf]; omega
              · have t1 : ¬ (t : Int) < (n9 : Int) := by omega
                have HY := Lib.hid HU.out
                clear HU hlt3 ht
                go_wp2_with fail
                go_loopw [28, 29, 30] (fun i _ _ wr => ∃ (t : Nat) (U : World), U = wr ∧ t ≤ len2 ∧ i = .int .i64 (t : Int) ∧ Hid (Ap3 w3 w s rb pb zs len2 n1 N U)) (fun i _ _ _ => len2 - (intOf i).toNat)
                case atStart => exact ⟨0, _, rfl, Nat.zero_le _, rfl, Lib.hid HY.out.1⟩
                case round =>
                  obtain ⟨t9, U9, rfl, ht9, rfl, HU9⟩ := hrel
                  clear HY
                  by_cases hlt9 : t9 < len2
                  · have u0 : (0 : Int) ≤ (t9 : Int) := by omega
                    have u1 : (t9 : Int) < (len2 : Int) := by omega
                    obtain ⟨b9, o9, rfl, hb9, hc9⟩ := WB2.out.elem (by omega)
                    have g9 := (World.cell?_of_block (a := ⟨b9, o9 + t9, none⟩) (HU9.out.kept.block b9 hb9)).trans (hc9 t9 hlt9).1
                    have HS := Lib.hid (kOf_spec (zs.getD t9 0))
                    have hhi := HU9.out.hi t9 hlt9
                    have HG9 := maGet HU9.out.tb.m HU9.out.gb HS.out.1
                    obtain ⟨xx, hxx⟩ : ∃ xx, zs.getD t9 0 = xx := ⟨_, rfl⟩
                    rw [hxx] at g9 HS hhi HG9
                    obtain ⟨kk, hkk⟩ : ∃ kk, kOf xx = kk := ⟨_, rfl⟩
                    rw [hkk] at HS hhi HG9
                    obtain ⟨vv, hvv⟩ : ∃ vv, lookM pb kk = vv := ⟨_, rfl⟩
                    rw [hvv] at hhi HG9
                    have v1 : ¬ (vv : Int) < 100 := by omega
                    have v2 : decide ((vv : Int) < 100) = false := decide_eq_false v1
                    have HG := Lib.hid HG9
                    unfold pgV at HG
                    clear HG9 hc9 hb9 hxx hkk hvv hhi
                    have kw := HS.out.2
                    go_wp2_with fail
                    refine HG.out.mono ?_
                    rintro e U2 ⟨rfl, hk2⟩
                    have HU2 := Lib.hid (HU9.out.old hk2)
                    clear hk2 HG g9 kw
                    go_wp2_with fail
                    go_roundw
                    case rel => exact ⟨t9 + 1, _, rfl, by omega, by go_num, HU2⟩
                    case measure => simp only [intOf]; omega
                  · have u1 : ¬ (t9 : Int) < (len2 : Int) := by omega
                    have HE := Lib.hid HU9.out.kept
                    clear HU9
                    go_wp2_with fail
                    go_ret
                    exact ⟨rfl, HE.out⟩
          | true =>
            replace HX : Hid (Ap3 w3 w s rb pb zs len2 n1 N V3 ∧ LsE V3 s wa (esOf qs) ∧ LsE V3 s na (esOf qs) ∧ LsE V3 s xa (esOf pb) ∧ LsE V3 s ya (esOf pb)) := HX
            rw [show (bif true then pb else qs) = pb from rfl, hnp]
            clear hnp hn9
            go_wp2_with fail
            go_loopw [26] (fun i wr => ∃ (t : Nat) (U : World), U = wr ∧ t ≤ n9 ∧ i = .int .i64 (t : Int) ∧ Hid (Ap3 w3 w s rb pb zs len2 n1 N U ∧ LsE U s wa (esOf qs) ∧ LsE U s na (esOf qs) ∧ LsE U s xa (esOf pb) ∧ LsE U s ya (esOf pb))) (fun i _ => n9 - (intOf i).toNat)
            case atStart => exact ⟨0, _, rfl, Nat.zero_le _, rfl, HX⟩
            case round =>
              obtain ⟨t, U, rfl, ht, rfl, HU⟩ := hrel
              clear HX
              by_cases hlt3 : t < n9
              · have t0 : (0 : Int) ≤ (t : Int) := by omega
                have t1 : (t : Int) < (n9 : Int) := by omega
                have hel : t < ((esOf qs)).length := by rw [esOf_length, HN9.out]; exact hlt3
                obtain ⟨b2, o2, rfl, hc2⟩ := HU.out.2.1.cells (by omega)
                obtain ⟨b3, o3, rfl, hc3⟩ := HU.out.2.2.1.cells (by omega)
                obtain ⟨y0, y1⟩ := hc2 t hel
                obtain ⟨z0, z1⟩ := hc3 t hel
                obtain ⟨⟨x1, x2⟩, hv⟩ : ∃ v, atE ((esOf qs)) t = v := ⟨_, rfl⟩
                rw [hv] at y0 y1 z0 z1
                simp only at y0 y1 z0 z1
                clear hc2 hc3 hv hel
                go_wp2_with fail
                go_quiet (fail)
                go_wp2_with fail
                go_roundw
                case rel => exact ⟨t + 1, _, rfl, by omega, by go_num, Lib.hid ⟨HU.out.1.drewN nq, HU.out.2.1.old ((KeptIn.refl _ _).drewN nq), HU.out.2.2.1.old ((KeptIn.refl _ _).drewN nq), HU.out.2.2.2.1.old ((KeptIn.refl _ _).drewN nq), HU.out.2.2.2.2.old ((KeptIn.refl _ _).drewN nq)⟩⟩
                case measure => simp only [intOf]; omega
              · have t1 : ¬ (t : Int) < (n9 : Int) := by omega
                have HY := Lib.hid HU.out
                clear HU hlt3 ht
                have HX := Lib.hid (And.intro HY.out.1 (And.intro HY.out.2.2.2.1 (And.intro HY.out.2.2.2.2 (And.intro HY.out.2.1 HY.out.2.2.1))))
                clear HY
                go_wp2_with fail
                go_loopw [27] (fun i wr => ∃ (t : Nat) (U : World), U = wr ∧ t ≤ np ∧ i = .int .i64 (t : Int) ∧ Hid (Ap3 w3 w s rb pb zs len2 n1 N U ∧ LsE U s xa (esOf pb) ∧ LsE U s ya (esOf pb) ∧ LsE U s wa (esOf qs) ∧ LsE U s na (esOf qs))) (fun i _ => np - (intOf i).toNat)
                case atStart => exact ⟨0, _, rfl, Nat.zero_le _, rfl, HX⟩
                case round =>
                  obtain ⟨t, U, rfl, ht, rfl, HU⟩ := hrel
                  clear HX
                  by_cases hlt3 : t < np
                  · have t0 : (0 : Int) ≤ (t : Int) := by omega
                    have t1 : (t : Int) < (np : Int) := by omega
                    have hel : t < ((esOf pb)).length := by rw [esOf_length, HNP.out]; exact hlt3
                    obtain ⟨b2, o2, rfl, hc2⟩ := HU.out.2.1.cells (by omega)
                    obtain ⟨b3, o3, rfl, hc3⟩ := HU.out.2.2.1.cells (by omega)
                    obtain ⟨y0, y1⟩ := hc2 t hel
                    obtain ⟨z0, z1⟩ := hc3 t hel
                    obtain ⟨⟨x1, x2⟩, hv⟩ : ∃ v, atE ((esOf pb)) t = v := ⟨_, rfl⟩
                    rw [hv] at y0 y1 z0 z1
                    simp only at y0 y1 z0 z1
                    clear hc2 hc3 hv hel
                    go_wp2_with fail
                    go_quiet (fail)
                    go_wp2_with fail
                    go_roundw
                    case rel => exact ⟨t + 1, _, rfl, by omega, by go_num, Lib.hid ⟨HU.out.1.drewN nq, HU.out.2.1.old ((KeptIn.refl _ _).drewN nq), HU.out.2.2.1.old ((KeptIn.refl _ _).drewN nq), HU.out.2.2.2.1.old ((KeptIn.refl _ _).drewN nq), HU.out.2.2.2.2.old ((KeptIn.refl _ _).drewN nq)⟩⟩
                    case measure => simp only [intOf]; omega
                  · have t1 : ¬ (t : Int) < (np : Int) := by omega
                    have HY := Lib.hid HU.out
                    clear HU hlt3 ht
                    go_wp2_with fail
                    go_loopw [28, 29, 30] (fun i _ _ wr => ∃ (t : Nat) (U : World), U = wr ∧ t ≤ len2 ∧ i = .int .i64 (t : Int) ∧ Hid (Ap3 w3 w s rb pb zs len2 n1 N U)) (fun i _ _ _ => len2 - (intOf i).toNat)
                    case atStart => exact ⟨0, _, rfl, Nat.zero_le _, rfl, Lib.hid HY.out.1⟩
                    case round =>
                      obtain ⟨t9, U9, rfl, ht9, rfl, HU9⟩ := hrel
                      clear HY
                      by_cases hlt9 : t9 < len2
                      · have u0 : (0 : Int) ≤ (t9 : Int) := by omega
                        have u1 : (t9 : Int) < (len2 : Int) := by omega
                        obtain ⟨b9, o9, rfl, hb9, hc9⟩ := WB2.out.elem (by omega)
                        have g9 := (World.cell?_of_block (a := ⟨b9, o9 + t9, none⟩) (HU9.out.kept.block b9 hb9)).trans (hc9 t9 hlt9).1
                        have HS := Lib.hid (kOf_spec (zs.getD t9 0))
                        have hhi := HU9.out.hi t9 hlt9
                        have HG9 := maGet HU9.out.tb.m HU9.out.gb HS.out.1
                        obtain ⟨xx, hxx⟩ : ∃ xx, zs.getD t9 0 = xx := ⟨_, rfl⟩
                        rw [hxx] at g9 HS hhi HG9
                        obtain ⟨kk, hkk⟩ : ∃ kk, kOf xx = kk := ⟨_, rfl⟩
                        rw [hkk] at HS hhi HG9
                        obtain ⟨vv, hvv⟩ : ∃ vv, lookM pb kk = vv := ⟨_, rfl⟩
                        rw [hvv] at hhi HG9
                        have v1 : ¬ (vv : Int) < 100 := by omega
                        have v2 : decide ((vv : Int) < 100) = false := decide_eq_false v1
                        have HG := Lib.hid HG9
                        unfold pgV at HG
                        clear HG9 hc9 hb9 hxx hkk hvv hhi
                        have kw := HS.out.2
                        go_wp2_with fail
                        refine HG.out.mono ?_
                        rintro e U2 ⟨rfl, hk2⟩
                        have HU2 := Lib.hid (HU9.out.old hk2)
                        clear hk2 HG g9 kw
                        go_wp2_with fail
                        go_roundw
                        case rel => exact ⟨t9 + 1, _, rfl, by omega, by go_num, HU2⟩
                        case measure => simp only [intOf]; omega
                      · have u1 : ¬ (t9 : Int) < (len2 : Int) := by omega
                        have HE := Lib.hid HU9.out.kept
                        clear HU9
                        go_wp2_with fail
                        go_ret
                        exact ⟨rfl, HE.out⟩

end Go.Proofs.Ytbnpabpkaebojaa
