/- Order: OrderBack's walk. -/
import Derived.Test.YtipalcllmbmhfaaDoorMt20
set_option linter.unusedVariables false
set_option linter.unusedSimpArgs false
namespace Go.Proofs.YtipalcllmbmhfaaDoor
open Go.RowKit

theorem text_can (o : Od) (h : o.ok) (hc : canT o.ts = true) : ∀ V, Tb20 V → Calls Tryd.prog 12 #[valO o] V fun e w' => e = .returned (.tuple #[.string ⟨(textL o).toArray⟩, .int .i64 0]) ∧ KeptIn (· < V.heap.size) V w' := fun V TV => by
  have := oText o h V TV
  rw [hc, if_pos rfl, show txtR o = textL o by unfold txtR; rw [if_pos hc]] at this
  exact this
theorem parse_can (o : Od) (h : o.ok) (hc : canT o.ts = true) : ∀ V, Tb20 V → Calls Tryd.prog 18 #[.string ⟨(textL o).toArray⟩] V fun e w' => e = .returned (.tuple #[valO o, .int .i64 0]) ∧ KeptIn (· < V.heap.size) V w' := fun V TV => by
  have := oParse (textL o) (by have := textL_len o h hc; omega) V TV
  rw [parse_text o h hc] at this
  exact this
theorem alike_can (o : Od) (h : o.ok) (hc : canT o.ts = true) : ∀ V, Tb20 V → Calls Tryd.prog 24 #[valO o, valO o] V fun e w' => e = .returned (.bool true) ∧ KeptIn (· < V.heap.size) V w' := fun V TV => by
  have := oAlike o o h h hc hc V TV
  rw [show (textL o == textL o) = true by simp] at this
  exact this
theorem mkO_can (k : Nat) (hk : k < 15) (a b c : Int) (s t u : List UInt8) (hs : s.length ≤ 512) (ht : t.length ≤ 512) (hu : u.length ≤ 512) : canT (mkO k a b c s t u).ts = true := by
  match k, hk with
  | 0, _ | 1, _ | 2, _ | 3, _ | 4, _ | 5, _ | 6, _ | 8, _ | 9, _ | 10, _ | 11, _ | 12, _ | 13, _ => rfl
  | 7, _ => simp [mkO, canT, hs]
  | 14, _ => simp [mkO, canT, hs, ht, hu]
  | n + 15, h => exact absurd h (by omega)
/-- The forms of two orders that can be, held against one another. -/
theorem same_can (o p : Od) (ho : o.ok) (hp : p.ok) (co : canT o.ts = true) (cp : canT p.ts = true) (V : World) (v1 v2 u1 u2 : Value) (B1 B2 B3 B4 : Nat) (h1 : RowN v1 (nsOf o) B1 V) (h2 : RowT v2 (tsOf o) B2 V) (h3 : RowN u1 (nsOf p) B3 V) (h4 : RowT u2 (tsOf p) B4 V) :
    Calls Tryd.prog 14 #[oS ((o.k + 1 : Nat) : Int) v1 v2, oS ((p.k + 1 : Nat) : Int) u1 u2] V fun e w' => e = .returned (.bool (textL o == textL p)) ∧ KeptIn (· < V.heap.size) V w' := by
  obtain ⟨a1, rfl, r1⟩ := h1.rd
  obtain ⟨a2, rfl, r2⟩ := h2.rd
  obtain ⟨b1, rfl, r3⟩ := h3.rd
  obtain ⟨b2, rfl, r4⟩ := h4.rd
  have e1 : nsOf o = o.ns := by unfold nsOf; rw [if_pos co]
  have e2 : tsOf o = o.ts := by unfold tsOf; rw [if_pos co]
  have e3 : nsOf p = p.ns := by unfold nsOf; rw [if_pos cp]
  have e4 : tsOf p = p.ts := by unfold tsOf; rw [if_pos cp]
  rw [e1] at r1
  rw [e2] at r2
  rw [e3] at r3
  rw [e4] at r4
  rw [e1, e2, e3, e4, text_inj o p ho hp co cp]
  have hl : o.ns.length ≤ 3 ∧ o.ts.length ≤ 3 := by
    rw [ho.n, ho.t]
    have := cn_ct o.k ho.k
    omega
  exact rSame _ _ a1 a2 b1 b2 _ _ _ _ V r1 r3 r2 r4 (by omega) (by omega)

set_option maxRecDepth 1000000 in
set_option maxHeartbeats 4000000 in
theorem orderBackL (k0 k1 a b c : Int) (s t ln : List UInt8) (w : World) (ha : -9223372036854775808 ≤ a ∧ a ≤ 9223372036854775807) (hb : -9223372036854775808 ≤ b ∧ b ≤ 9223372036854775807) (hc : -9223372036854775808 ≤ c ∧ c ≤ 9223372036854775807)
    (hs : (s.length : Int) ≤ 9223372036854775807) (ht : (t.length : Int) ≤ 9223372036854775807) (hl : (ln.length : Int) ≤ 9223372036854775807) (T : Tb20 w) :
    Calls Tryd.prog 5 #[.agg #[.int .i64 k0, .int .i64 k1], .int .i64 a, .int .i64 b, .int .i64 c, .string ⟨s.toArray⟩, .string ⟨t.toArray⟩, .string ⟨ln.toArray⟩] w fun e w' => e = .returned (.bool true) ∧ KeptIn (· < w.heap.size) w w' := by
  by_cases hbig : s.length ≤ 512 ∧ t.length ≤ 512 ∧ ln.length ≤ 2048
  · obtain ⟨g1, g2, g3⟩ := hbig
    have d1 : decide ((512 : Int) < (s.length : Int)) = false := decide_eq_false (by omega)
    have d2 : decide ((512 : Int) < (t.length : Int)) = false := decide_eq_false (by omega)
    have d3 : decide ((2048 : Int) < (ln.length : Int)) = false := decide_eq_false (by omega)
    have d4 : decide (512 < s.length) = false := decide_eq_false (by omega)
    have d5 : decide (512 < t.length) = false := decide_eq_false (by omega)
    have d6 : decide (2048 < ln.length) = false := decide_eq_false (by omega)
    obtain ⟨X, hX⟩ : ∃ X, mkO (kd15 k0) a b c s t [] = X := ⟨_, rfl⟩
    obtain ⟨Y, hY⟩ : ∃ Y, mkO (kd15 k1) a c b t s [] = Y := ⟨_, rfl⟩
    have okX : X.ok := by rw [← hX]; exact mkO_ok _ (kd15_lt k0) a b c s t [] ha hb hc (by omega) (by omega) (by simp)
    have okY : Y.ok := by rw [← hY]; exact mkO_ok _ (kd15_lt k1) a c b t s [] ha hc hb (by omega) (by omega) (by simp)
    have cX : canT X.ts = true := by rw [← hX]; exact mkO_can _ (kd15_lt k0) a b c s t [] g1 g2 (by simp)
    have cY : canT Y.ts = true := by rw [← hY]; exact mkO_can _ (kd15_lt k1) a c b t s [] g2 g1 (by simp)
    have CX := Lib.hid fun V => oMade k0 a b c s t [] V
    have CY := Lib.hid fun V => oMade k1 a c b t s [] V
    rw [hX] at CX
    rw [hY] at CY
    have CTX := Lib.hid (text_can X okX cX)
    have CTY := Lib.hid (text_can Y okY cY)
    have CFX := Lib.hid fun V => oForm X okX V
    have CFY := Lib.hid fun V => oForm Y okY V
    have CS := Lib.hid fun V v1 v2 u1 u2 B1 B2 B3 B4 h1 h2 h3 h4 => same_can X Y okX okY cX cY V v1 v2 u1 u2 B1 B2 B3 B4 h1 h2 h3 h4
    have CPX := Lib.hid (parse_can X okX cX)
    have CAX := Lib.hid (alike_can X okX cX)
    have CMX := Lib.hid fun V => oMust X okX cX V
    have CFX' : Hid (∀ V, Calls Tryd.prog 15 #[valO X] V fun e w' => (∃ v1 v2, e = .returned (oS ((X.k + 1 : Nat) : Int) v1 v2) ∧ RowN v1 (nsOf X) V.heap.size w' ∧ RowT v2 (tsOf X) V.heap.size w') ∧ KeptIn (· < V.heap.size) V w') := CFX
    have CFY' : Hid (∀ V, Calls Tryd.prog 15 #[valO Y] V fun e w' => (∃ v1 v2, e = .returned (oS ((Y.k + 1 : Nat) : Int) v1 v2) ∧ RowN v1 (nsOf Y) V.heap.size w' ∧ RowT v2 (tsOf Y) V.heap.size w') ∧ KeptIn (· < V.heap.size) V w') := CFY
    obtain ⟨x, hx⟩ : ∃ x, valO X = x := ⟨_, rfl⟩
    obtain ⟨y, hy⟩ : ∃ y, valO Y = y := ⟨_, rfl⟩
    obtain ⟨sx, hsx⟩ : ∃ x, textL X = x := ⟨_, rfl⟩
    obtain ⟨sy, hsy⟩ : ∃ x, textL Y = x := ⟨_, rfl⟩
    rw [hx] at CX CTX CFX' CPX CAX CMX
    rw [hy] at CY CTY CFY'
    rw [hsx] at CTX CPX
    rw [hsy] at CTY
    rw [hsx, hsy] at CS
    obtain ⟨bb, hbb⟩ : ∃ b, (sx == sy) = b := ⟨_, rfl⟩
    rw [hbb] at CS
    obtain ⟨kx, hkx⟩ : ∃ k, ((X.k + 1 : Nat) : Int) = k := ⟨_, rfl⟩
    obtain ⟨ky, hky⟩ : ∃ k, ((Y.k + 1 : Nat) : Int) = k := ⟨_, rfl⟩
    rw [hkx] at CFX' CS
    rw [hky] at CFY' CS
    have bbb : (bb == bb) = true := by simp
    have bnn : (bb != bb) = false := by simp
    have hln := Lib.hid g3
    obtain ⟨W0, hW0⟩ : ∃ W, w.alloc (.cells #[.int .i64 k0, .int .i64 k1] 53) = W := ⟨_, rfl⟩
    have hs0 : W0.heap.size = w.heap.size + 1 := by rw [← hW0]; simp
    have hKW : KeptIn (· < w.heap.size) w W0 := by rw [← hW0]; exact (KeptIn.refl _ w).alloc (fun _ h => h) _
    have HKW : Hid (∀ V, KeptIn (· < W0.heap.size) W0 V → KeptIn (· < w.heap.size) w V) := Lib.hid fun V h => hKW.trans (h.mono fun k hk => by omega)
    have HW0 : W0.heap[w.heap.size]? = some (.cells #[.int .i64 k0, .int .i64 k1] 53 (0, 0)) := by rw [← hW0]; exact heap_alloc_new w _
    have HC : Hid (∀ V, KeptIn (· < W0.heap.size) W0 V → V.cell? ⟨w.heap.size, 0, none⟩ = some (.int .i64 k0) ∧ V.cell? ⟨w.heap.size, 1, none⟩ = some (.int .i64 k1)) := Lib.hid fun V h => by
      have h1 := (h.block w.heap.size (by omega)).trans HW0
      refine ⟨?_, ?_⟩
      · unfold World.cell?; rw [h1]; rfl
      · unfold World.cell?; rw [h1]; rfl
    have HT : Hid (∀ V, KeptIn (· < W0.heap.size) W0 V → Tb20 V) := Lib.hid fun V h => T.kept (HKW.out V h)
    have H0 : Hid (KeptIn (· < W0.heap.size) W0 W0) := Lib.hid (KeptIn.refl _ _)
    have hWh := Lib.hid hW0
    clear hW0 g1 g2 g3 okX okY cX cY hX hY hx hy hsx hsy hkx hky CFX CFY ha hb hc hs0 hKW HW0 T
    go_enter Tryd.func5, Tryd.ntmps5
    go_wp2_with fail
    rw [hWh.out]
    clear hWh
    refine (awake20 W0 (HT.out _ H0.out)).mono ?_
    rintro e V1 ⟨rfl, hK1⟩
    have H1 := Lib.hid (H0.out.trans hK1)
    clear hK1 H0
    obtain ⟨c0, c1⟩ := HC.out _ H1.out
    go_wp2_with fail
    clear c0 c1
    refine (CX.out V1).mono ?_
    rintro e V2 ⟨rfl, hK2⟩
    have H2 := Lib.hid (H1.out.trans (hK2.mono fun k hk => Nat.lt_of_lt_of_le hk H1.out.size))
    clear hK2 H1
    obtain ⟨c0, c1⟩ := HC.out _ H2.out
    go_wp2_with fail
    clear c0 c1
    refine (CY.out V2).mono ?_
    rintro e V3 ⟨rfl, hK3⟩
    have H3 := Lib.hid (H2.out.trans (hK3.mono fun k hk => Nat.lt_of_lt_of_le hk H2.out.size))
    clear hK3 H2
    go_wp2_with fail
    refine (CTX.out _ (HT.out _ H3.out)).mono ?_
    rintro e V4 ⟨rfl, hKn⟩
    have H4 := Lib.hid (H3.out.trans (hKn.mono fun k hk => Nat.lt_of_lt_of_le hk H3.out.size))
    clear hKn H3
    go_wp2_with fail
    refine (CTY.out _ (HT.out _ H4.out)).mono ?_
    rintro e V5 ⟨rfl, hKn⟩
    have H5 := Lib.hid (H4.out.trans (hKn.mono fun k hk => Nat.lt_of_lt_of_le hk H4.out.size))
    clear hKn H4
    go_wp2_with fail
    refine (CFX'.out V5).mono ?_
    rintro e V6 ⟨⟨v1, v2, rfl, r1, r2⟩, hK6⟩
    replace r1 := Lib.hid r1
    replace r2 := Lib.hid r2
    have H6 := Lib.hid (H5.out.trans (hK6.mono fun k hk => Nat.lt_of_lt_of_le hk H5.out.size))
    clear hK6 H5
    go_wp2_with fail
    refine (CFY'.out V6).mono ?_
    rintro e V7 ⟨⟨u1, u2, rfl, r3, r4⟩, hK7⟩
    replace r1 := Lib.hid (r1.out.old hK7)
    replace r2 := Lib.hid (r2.out.old hK7)
    replace r3 := Lib.hid r3
    replace r4 := Lib.hid r4
    have H7 := Lib.hid (H6.out.trans (hK7.mono fun k hk => Nat.lt_of_lt_of_le hk H6.out.size))
    clear hK7 H6
    go_wp2_with fail
    refine (CS.out _ _ _ _ _ _ _ _ _ r1.out r2.out r3.out r4.out).mono ?_
    rintro e V8 ⟨rfl, hKn⟩
    have H8 := Lib.hid (H7.out.trans (hKn.mono fun k hk => Nat.lt_of_lt_of_le hk H7.out.size))
    clear hKn H7
    clear r1 r2 r3 r4
    go_wp2_with fail
    refine (CPX.out _ (HT.out _ H8.out)).mono ?_
    rintro e V9 ⟨rfl, hKn⟩
    have H9 := Lib.hid (H8.out.trans (hKn.mono fun k hk => Nat.lt_of_lt_of_le hk H8.out.size))
    clear hKn H8
    go_wp2_with fail
    refine (CAX.out _ (HT.out _ H9.out)).mono ?_
    rintro e V10 ⟨rfl, hKn⟩
    have H10 := Lib.hid (H9.out.trans (hKn.mono fun k hk => Nat.lt_of_lt_of_le hk H9.out.size))
    clear hKn H9
    go_wp2_with fail
    refine (CMX.out _).mono ?_
    rintro e VM ⟨rfl, hKn⟩
    have HM := Lib.hid (H10.out.trans (hKn.mono fun k hk => Nat.lt_of_lt_of_le hk H10.out.size))
    clear hKn H10
    go_wp2_with fail
    refine (CAX.out _ (HT.out _ HM.out)).mono ?_
    rintro e V11 ⟨rfl, hKn⟩
    have H11 := Lib.hid (HM.out.trans (hKn.mono fun k hk => Nat.lt_of_lt_of_le hk HM.out.size))
    clear hKn HM
    cases hpl : parseO ln with
    | none =>
      have CPL : Hid (∀ V, Tb20 V → Calls Tryd.prog 18 #[.string ⟨ln.toArray⟩] V fun e w' => e = .returned (.tuple #[.nilIface, .int .i64 3]) ∧ KeptIn (· < V.heap.size) V w') := Lib.hid fun V TV => by
        have := oParse ln (by have := hln.out; omega) V TV
        rw [hpl] at this
        exact this
      clear hpl
      go_wp2_with fail
      refine (CPL.out _ (HT.out _ H11.out)).mono ?_
      rintro e V12 ⟨rfl, hKn⟩
      have H12 := Lib.hid (H11.out.trans (hKn.mono fun k hk => Nat.lt_of_lt_of_le hk H11.out.size))
      clear hKn H11
      go_wp2_with fail
      go_ret
      exact ⟨rfl, HKW.out _ H12.out⟩
    | some Q =>
      obtain ⟨hq, hqc⟩ := parse_sound ln Q (by have := hln.out; omega) hpl
      have CPL : Hid (∀ V, Tb20 V → Calls Tryd.prog 18 #[.string ⟨ln.toArray⟩] V fun e w' => e = .returned (.tuple #[valO Q, .int .i64 0]) ∧ KeptIn (· < V.heap.size) V w') := Lib.hid fun V TV => by
        have := oParse ln (by have := hln.out; omega) V TV
        rw [hpl] at this
        exact this
      have CTQ := Lib.hid (text_can Q hq hqc)
      have CPQ := Lib.hid (parse_can Q hq hqc)
      have CAQ := Lib.hid (alike_can Q hq hqc)
      obtain ⟨q, hqv⟩ : ∃ q, valO Q = q := ⟨_, rfl⟩
      rw [hqv] at CPL CTQ CPQ CAQ
      clear hpl hq hqc hqv
      go_wp2_with fail
      refine (CPL.out _ (HT.out _ H11.out)).mono ?_
      rintro e V12 ⟨rfl, hKn⟩
      have H12 := Lib.hid (H11.out.trans (hKn.mono fun k hk => Nat.lt_of_lt_of_le hk H11.out.size))
      clear hKn H11
      go_wp2_with fail
      refine (CTQ.out _ (HT.out _ H12.out)).mono ?_
      rintro e V13 ⟨rfl, hKn⟩
      have H13 := Lib.hid (H12.out.trans (hKn.mono fun k hk => Nat.lt_of_lt_of_le hk H12.out.size))
      clear hKn H12
      go_wp2_with fail
      refine (CPQ.out _ (HT.out _ H13.out)).mono ?_
      rintro e V14 ⟨rfl, hKn⟩
      have H14 := Lib.hid (H13.out.trans (hKn.mono fun k hk => Nat.lt_of_lt_of_le hk H13.out.size))
      clear hKn H13
      go_wp2_with fail
      refine (CAQ.out _ (HT.out _ H14.out)).mono ?_
      rintro e V15 ⟨rfl, hKn⟩
      have H15 := Lib.hid (H14.out.trans (hKn.mono fun k hk => Nat.lt_of_lt_of_le hk H14.out.size))
      clear hKn H14
      go_wp2_with fail
      go_ret
      exact ⟨rfl, HKW.out _ H15.out⟩
  · obtain ⟨W0, hW0⟩ : ∃ W, w.alloc (.cells #[.int .i64 k0, .int .i64 k1] 53) = W := ⟨_, rfl⟩
    have hKW : KeptIn (· < w.heap.size) w W0 := by rw [← hW0]; exact (KeptIn.refl _ w).alloc (fun _ h => h) _
    have HKW : Hid (∀ V, KeptIn (· < W0.heap.size) W0 V → KeptIn (· < w.heap.size) w V) := Lib.hid fun V h => hKW.trans (h.mono fun k hk => Nat.lt_of_lt_of_le hk hKW.size)
    have HT : Hid (Tb20 W0) := Lib.hid (T.kept hKW)
    have hWh := Lib.hid hW0
    clear hW0 hKW T ha hb hc
    by_cases g1 : (512 : Int) < (s.length : Int)
    · have d1 : decide ((512 : Int) < (s.length : Int)) = true := decide_eq_true g1
      have d4 : decide (512 < s.length) = true := decide_eq_true (by omega)
      clear g1
      go_enter Tryd.func5, Tryd.ntmps5
      go_wp2_with fail
      rw [hWh.out]
      clear hWh
      refine (awake20 W0 HT.out).mono ?_
      rintro e V1 ⟨rfl, hK1⟩
      replace hK1 := Lib.hid hK1
      go_wp2_with fail
      go_ret
      exact ⟨rfl, HKW.out _ hK1.out⟩
    · have d1 : decide ((512 : Int) < (s.length : Int)) = false := decide_eq_false g1
      have d4 : decide (512 < s.length) = false := decide_eq_false (by omega)
      by_cases g2 : (512 : Int) < (t.length : Int)
      · have d2 : decide ((512 : Int) < (t.length : Int)) = true := decide_eq_true g2
        have d5 : decide (512 < t.length) = true := decide_eq_true (by omega)
        clear g1 g2
        go_enter Tryd.func5, Tryd.ntmps5
        go_wp2_with fail
        rw [hWh.out]
        clear hWh
        refine (awake20 W0 HT.out).mono ?_
        rintro e V1 ⟨rfl, hK1⟩
        replace hK1 := Lib.hid hK1
        go_wp2_with fail
        go_ret
        exact ⟨rfl, HKW.out _ hK1.out⟩
      · have d2 : decide ((512 : Int) < (t.length : Int)) = false := decide_eq_false g2
        have d5 : decide (512 < t.length) = false := decide_eq_false (by omega)
        have g3 : (2048 : Int) < (ln.length : Int) := by
          apply Int.not_le.1
          intro h
          exact hbig ⟨by omega, by omega, by omega⟩
        have d3 : decide ((2048 : Int) < (ln.length : Int)) = true := decide_eq_true g3
        have d6 : decide (2048 < ln.length) = true := decide_eq_true (by omega)
        clear g1 g2 g3
        go_enter Tryd.func5, Tryd.ntmps5
        go_wp2_with fail
        rw [hWh.out]
        clear hWh
        refine (awake20 W0 HT.out).mono ?_
        rintro e V1 ⟨rfl, hK1⟩
        replace hK1 := Lib.hid hK1
        go_wp2_with fail
        go_ret
        exact ⟨rfl, HKW.out _ hK1.out⟩

theorem len_str' (s : ByteArray) (h : s.size ≤ maxLen) : (s.data.toList.length : Int) ≤ 9223372036854775807 := by
  rw [Array.length_toList]
  have : s.data.size ≤ maxLen := h
  unfold maxLen at this
  omega

theorem orderBackW (k0 k1 a b c : Int) (s t ln : ByteArray) (w : World) (_ : True) (ha : (Lit.int .i64 a).wf = true) (hb : (Lit.int .i64 b).wf = true) (hc : (Lit.int .i64 c).wf = true) (hs : s.size ≤ maxLen) (ht : t.size ≤ maxLen) (hl : ln.size ≤ maxLen) (T : Tb20 w) :
    Calls Tryd.prog 5 #[.agg #[.int .i64 k0, .int .i64 k1], .int .i64 a, .int .i64 b, .int .i64 c, .string s, .string t, .string ln] w fun e w' => e = .returned (.bool true) ∧ KeptIn (· < w.heap.size) w w' := by
  have ba := bounds_i64 ha
  have bb := bounds_i64 hb
  have bc := bounds_i64 hc
  have := orderBackL k0 k1 a b c s.data.toList t.data.toList ln.data.toList w ⟨ba.1, by omega⟩ ⟨bb.1, by omega⟩ ⟨bc.1, by omega⟩ (len_str' s hs) (len_str' t ht) (len_str' ln hl) T
  rwa [Lib.mk_data, Lib.mk_data, Lib.mk_data] at this

end Go.Proofs.YtipalcllmbmhfaaDoor
