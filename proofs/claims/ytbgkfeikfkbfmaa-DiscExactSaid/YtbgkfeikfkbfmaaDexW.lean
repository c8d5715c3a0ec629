/- tiercelaw04.DiscExact: it answers true whatever the input; what was there stands. -/
import Derived.Test.YtbgkfeikfkbfmaaDoW2
import Derived.Test.YtbgkfeikfkbfmaaRef4e
import Derived.Test.YtbgkfeikfkbfmaaAw4
set_option linter.unusedVariables false
namespace Go.Proofs.Ytbgkfeikfkbfmaa
open Go.RowKit

theorem l4Do {w : World} {d m s b u N : Nat} {vn vs vl : Value} {p : Pw} {S : List (List UInt8)} {M : Int → Option (List UInt8)} {W : World}
    (h : Bth w d m s b u N vn vs vl p S M (flushed S M) S (looseL S M) W) (k x y : Int) (z : UInt8) (t : List UInt8) (ix : I64 x) (iy : I64 y) (ht : t.length ≤ maxLen) (hN : N ≤ 1000) :
    Calls Try.prog 10 (doArgs m d u (actV k x y z t)) W fun e w' => e = .returned (.bool true) ∧ Fine w d m s b u N vn vs vl w' := by
  by_cases k1 : k = 1
  · subst k1; exact do1 h x y z t ix hN
  by_cases k2 : k = 2
  · subst k2; exact do2 h x y z t ix hN
  by_cases k3 : k = 3
  · subst k3; exact do3 h x y z t ix iy
  by_cases k4 : k = 4
  · subst k4; exact do4 h x y z t
  by_cases k5 : k = 5
  · subst k5; exact do5 h x y z t
  by_cases k6 : k = 6
  · subst k6; exact do6 h x y z t ht
  by_cases k7 : k = 7
  · subst k7; exact do7 h x y z t
  exact do8 h k x y z t k1 k2 k3 k4 k5 k6 k7

/-- What a slice of deeds that came in is: each element's five cells. -/
def IsActs4 (w : World) (a : Option Addr) (len : Nat) : Prop :=
  len = 0 ∨ ∃ b off, a = some ⟨b, off, none⟩ ∧ b < w.heap.size ∧ len ≤ maxLen ∧ ∀ i, i < len → ∃ (k x y : Int) (z : UInt8) (t : List UInt8),
    I64 x ∧ I64 y ∧ t.length ≤ maxLen ∧
    w.cell? ⟨b, off + i * 5, none⟩ = some (.int .i64 k) ∧ w.cell? ⟨b, off + i * 5 + 1, none⟩ = some (.int .i64 x) ∧
    w.cell? ⟨b, off + i * 5 + 2, none⟩ = some (.int .i64 y) ∧ w.cell? ⟨b, off + i * 5 + 3, none⟩ = some (.int .u8 (z.toNat : Int)) ∧ w.cell? ⟨b, off + i * 5 + 4, none⟩ = some (.string ⟨t.toArray⟩)

theorem IsActs4.len_le {w : World} {a : Option Addr} {len : Nat} (h : IsActs4 w a len) : len ≤ maxLen := by
  rcases h with rfl | ⟨b, off, _, _, h, _⟩
  · exact Nat.zero_le _
  · exact h

theorem row_base {w : World} {B B' n : Nat} {T : TypeId} {v : Value} {xs : List Value} (h : w.ownsRow B T 1 v n xs) (hB : B' ≤ B) : w.ownsRow B' T 1 v n xs := by
  refine ⟨h.1, ?_⟩
  rcases h.2 with h1 | ⟨g, cap, cur, rfl, hg, r⟩
  · exact .inl h1
  · exact .inr ⟨g, cap, cur, rfl, Nat.le_trans hB hg, r⟩

theorem IntsAt.old {B : Nat} {v : Value} {ks : List Int} {W W' : World} (h : IntsAt B v ks W) (hk : KeptIn (· < W.heap.size) W W') : IntsAt B v ks W' := row_block h fun g e => hk.block g (h.lt g e).2

/-- Where a round begins. -/
def Round (w : World) (d m s b u N : Nat) (vn vs vl : Value) (W : World) : Prop :=
  ∃ p S M, Bth w d m s b u N vn vs vl p S M (flushed S M) S (looseL S M) W

set_option maxHeartbeats 2000000 in
set_option maxRecDepth 100000 in
theorem dexactW (s0 : ByteArray) (a1 : Option Addr) (len1 cap1 : Nat) (w : World) (h0 : s0.size ≤ maxLen) (w1 : IsActs4 w a1 len1) :
    Calls Try.prog 3 #[.string s0, .slice a1 len1 cap1] w fun e w' => e = .returned (.bool true) ∧ KeptIn (· < w.heap.size) w w' := by
  have l1 := w1.len_le
  obtain ⟨l, rfl⟩ : ∃ l : List UInt8, s0 = ⟨l.toArray⟩ := ⟨s0.data.toList, (Lib.mk_data s0).symm⟩
  have hl : l.length ≤ maxLen := by rwa [show (⟨l.toArray⟩ : ByteArray).size = l.length from List.size_toArray ..] at h0
  unfold maxLen at l1 hl
  have HL : Hid (l.length ≤ maxLen) := Lib.hid hl
  have b1 : (len1 : Int) ≤ 9223372036854775807 := by omega
  have b2 : (l.length : Int) ≤ 9223372036854775807 := by omega
  have W1 := Lib.hid w1
  clear w1 l1 h0 hl
  go_enter Try.func3, Try.ntmps3
  go_wp2_with (go_at_call 6; refine (awake4 w).mono ?_)
  rintro e wa ⟨rfl, ka⟩
  have KA := Lib.hid ka; clear ka
  by_cases g0 : (l.length : Int) > 320
  · go_wp2
    go_ret
    exact ⟨rfl, KA.out⟩
  have g0' : (l.length : Int) ≤ 320 := by omega
  clear g0
  go_wp2_with (go_at_call 7; refine (vNew (w := w) wa KA.out).mono ?_)
  rintro e wb ⟨m, rfl, hp1, hm1, hk1⟩
  have hl3 : l.length ≤ 320 := by omega
  have C2 := Lib.hid (dOf m l (l.length / 16) wb HL.out (by omega))
  have HB := Lib.hid (And.intro hp1 (And.intro hm1 hk1))
  clear hp1 hm1 hk1 KA
  go_wp2_with (go_at_call 8; refine C2.out.mono ?_)
  rintro e wc ⟨d, s, k, rfl, hd, hk, hd1, hs1, hb1⟩
  have hdv : Dv w d m s k 0 pw0 (secs l (l.length / 16)) (fun _ => none) wc := by
    have hz := HB.out.2.2.size
    exact ⟨hd, HB.out.1.kept hk HB.out.1.lt, Nat.le_trans hz hd1, HB.out.2.1, Nat.le_trans hz hs1, Nat.le_trans hz hb1, HB.out.2.2.trans (hk.mono fun k hk => Nat.lt_of_lt_of_le hk hz)⟩
  have HD := Lib.hid hdv
  have C3 := Lib.hid (r4Of l (l.length / 16) wc hl3 rfl)
  clear hd hk hd1 hs1 hb1 hdv C2 HB
  go_wp2_with (go_at_call 9; refine C3.out.mono ?_)
  rintro e wd ⟨u, vn, vs, vl, rfl, hu, hk⟩
  have hN : (secs l (l.length / 16)).length = l.length / 16 := secs_length _ _
  have HJ0 : Hid (Round w d m s k u 0 vn vs vl wd) := Lib.hid ⟨pw0, secs l (l.length / 16), fun _ => none, HD.out.old hk, by
    rw [flushed_none, looseL_none, hN]
    have hsz := HD.out.kept.size
    exact ⟨hu.hu, Nat.le_trans hsz hu.hB, row_base hu.rn hsz, row_base hu.rs hsz, row_base hu.rl hsz, hu.ls, hu.ll, hu.ne⟩⟩
  clear hu hk hN HD C3 hl3
  go_wp2_with fail
  go_loopw [8] (fun c wr => ∃ (j N : Nat) (W : World), W = wr ∧ j ≤ len1 ∧ j ≤ 60 ∧ c = .int .i64 j ∧ Hid (N ≤ 5 * j ∧ Round w d m s k u N vn vs vl W)) (fun c _ => 60 - (RowKit.intOf c).toNat)
  case atStart => exact ⟨0, 0, _, rfl, Nat.zero_le _, Nat.zero_le _, rfl, Lib.hid ⟨Nat.zero_le _, HJ0.out⟩⟩
  case round =>
    obtain ⟨j, N, W, rfl, hj, hj6, rfl, HJ⟩ := hrel
    clear HJ0
    by_cases hlt : j < len1
    · have d1 : (j : Int) < (len1 : Int) := by omega
      by_cases hlt6 : j < 60
      · have d0 : (0 : Int) ≤ (j : Int) := by omega
        have d2 : (j : Int) < 60 := by omega
        obtain ⟨ba, off, rfl, hb, _, hel⟩ : ∃ b off, a1 = some ⟨b, off, none⟩ ∧ b < w.heap.size ∧ len1 ≤ maxLen ∧ _ := W1.out.resolve_left (by omega)
        obtain ⟨kd, x, y, z, t, ix, iy, ht, e0, e1, e2, e3, e4⟩ := hel j hlt
        obtain ⟨hN, p, S, M, hB⟩ := HJ.out
        have q0 := (World.cell?_of_block (hB.dv.kept.block ba hb)).trans e0
        have q1 := (World.cell?_of_block (hB.dv.kept.block ba hb)).trans e1
        have q2 := (World.cell?_of_block (hB.dv.kept.block ba hb)).trans e2
        have q3 := (World.cell?_of_block (hB.dv.kept.block ba hb)).trans e3
        have q4 := (World.cell?_of_block (hB.dv.kept.block ba hb)).trans e4
        have HK := Lib.hid hB.dv.kept
        have C := Lib.hid (l4Do hB kd x y z t ix iy ht (by omega))
        have ht2 : (t.length : Int) ≤ 9223372036854775807 := by unfold maxLen at ht; omega
        clear hel e0 e1 e2 e3 e4 hB ix iy ht
        by_cases ht10 : (t.length : Int) > 10
        · go_wp2_with fail
          go_ret
          exact ⟨rfl, HK.out⟩
        have ht10' : (t.length : Int) ≤ 10 := by omega
        clear ht10 HK
        go_wp2_with (go_at_call 10; refine C.out.mono ?_)
        rintro e W2 ⟨rfl, N2, p2, S2, M2, hN2, h2⟩
        have HN2 : Hid (N2 ≤ 5 * (j + 1)) := Lib.hid (by omega)
        have CL := Lib.hid (dLoose d m s k N2 S2 M2 W2 h2.dv.isD)
        have H2 := Lib.hid h2
        clear h2 hN2 C q0 q1 q2 q3 q4 ht2 ht10' HJ hN
        go_wp2_with (go_at_call 11; refine CL.out.mono ?_)
        rintro e W3 ⟨v1, rfl, hv1, hk3⟩
        have h3 := H2.out.old hk3
        have hm16 := h3.dv.isD.max
        have cl := r4List w.heap.size u vn vs vl _ _ _ W3 h3.iu (by rw [flushed_length]; exact hm16)
        rw [looseL_length, trues_places S2.length (Nat.le_refl _)] at cl
        have CL2 := Lib.hid cl
        have H3 := Lib.hid h3
        have V1 : Hid (IntsAt W2.heap.size v1 (places S2.length M2) W3) := Lib.hid hv1
        obtain ⟨av, cv, rfl, _⟩ := V1.out.shape
        clear hv1 hk3 cl h3 H2 CL
        go_wp2_with (go_at_call 12; refine CL2.out.mono ?_)
        rintro e W4 ⟨v2, rfl, hv2, hk4⟩
        have h4 := H3.out.old hk4
        have V1' := Lib.hid (V1.out.old hk4)
        have V2 : Hid (IntsAt W3.heap.size v2 (places S2.length M2) W4) := Lib.hid hv2
        obtain ⟨av2, cv2, rfl, _⟩ := V2.out.shape
        obtain ⟨as', cs, hvs, _⟩ := row_shape h4.iu.rs
        obtain ⟨an, cn, hvn, _⟩ := row_shape h4.iu.rn
        rw [flushed_length] at hvn
        have c0 := h4.iu.c0; have c1 := h4.iu.c1
        rw [hvn] at c0; rw [hvs] at c1
        have hult := h4.iu.lt
        obtain ⟨K, hK⟩ : ∃ K, (places S2.length M2).length = K := ⟨_, rfl⟩
        have hK3 : (K : Int) ≤ 16384 := by
          have h1 := trues_length (looseL S2 M2) S2.length
          rw [trues_places S2.length (Nat.le_refl _), hK] at h1
          omega
        obtain ⟨T, hT⟩ : ∃ T, S2.flatten = T := ⟨_, rfl⟩
        have CI : Hid (Calls Try.prog 13 #[.pointer (some ⟨d, 0, none⟩)] W4.drew fun e w' => e = .returned (.string ⟨T.toArray⟩) ∧ KeptIn (· < W4.heap.size) W4 w') := Lib.hid (by
          have h5 := h4.old ((KeptIn.refl _ W4).drew)
          have := dImage d m s k N2 S2 M2 W4.drew h5.dv.isD
          rw [hT] at this
          refine this.mono ?_
          rintro e w' ⟨rfl, hk⟩
          exact ⟨rfl, ⟨hk.os, hk.tape, hk.output, hk.size, hk.block⟩⟩)
        have CT : Hid (∀ V, KeptIn (· < W4.heap.size) W4 V → Calls Try.prog 14 #[.slice as' S2.length cs] V fun e w' => e = .returned (.string ⟨T.toArray⟩) ∧ V = w') := Lib.hid (fun V hk => by
          have h5 := h4.old hk
          have := r4Text as' cs S2 V (fun hp => by
            obtain ⟨g, c', e, _, _, _, _, hc, _⟩ := row_at h5.iu.rs hp
            rw [hvs] at e
            simp only [Value.slice.injEq, true_and] at e
            refine ⟨g, 0, e.1, fun j x hj => ?_⟩
            rw [Nat.zero_add]
            exact hc j (strV x) (by rw [List.getElem?_map, hj]; rfl)) h5.dv.isD.len h5.dv.isD.max
          rw [hT] at this
          exact this)
        have CN : Hid (∀ V, KeptIn (· < W4.heap.size) W4 V → Calls Try.prog 15 #[.pointer (some ⟨d, 0, none⟩)] V fun e w' => e = .returned (.int .i64 S2.length) ∧ V = w') := Lib.hid (fun V hk => dLen d m s k N2 S2 M2 V (h4.old hk).dv.isD)
        have C0 := Lib.hid c0; have C1 := Lib.hid c1; have H4 := Lib.hid h4
        have HKT := Lib.hid (And.intro hK hT)
        rw [hK]
        have b3 : (S2.length : Int) ≤ 16384 := by omega
        obtain ⟨nS, hnS⟩ : ∃ nS, S2.length = nS := ⟨_, rfl⟩
        rw [hnS] at C0 C1 CT CN b3
        clear hv2 hk4 H3 CL2 hvs hvn c0 c1 hK hT h4 hm16 V1 hnS
        go_wp2_with fail
        go_region_held3 (fun w' => w'.cell? ⟨u, 0, none⟩ = some (.slice an nS cn) ∧ w'.cell? ⟨u, 1, none⟩ = some (.slice as' nS cs))
          (first
            | exact ⟨C0.out, C1.out⟩
            | exact ⟨(World.cell?_of_block (a := ⟨u, 0, none⟩) (hk.block u hult)).trans C0.out, (World.cell?_of_block (a := ⟨u, 1, none⟩) (hk.block u hult)).trans C1.out⟩)
          (first
            | (go_at_call 13; refine CI.out.mono ?_; rintro e w' ⟨rfl, hk⟩)
            | (go_at_call 14; refine (CT.out _ hk).mono ?_; rintro e w'' ⟨rfl, rfl⟩)
            | (go_at_call 15; refine (CN.out _ hk).mono ?_; rintro e w'' ⟨rfl, rfl⟩))
        have HJ0 : Hid (Bth w d m s k u N2 vn vs vl p2 S2 M2 (flushed S2 M2) S2 (looseL S2 M2) w' ∧ IntsAt W2.heap.size (.slice av K cv) (places S2.length M2) w' ∧ IntsAt W3.heap.size (.slice av2 K cv2) (places S2.length M2) w') := Lib.hid (by
          have h1 := V1'.out.old hk
          have h2 := V2.out.old hk
          rw [HKT.out.1] at h1 h2
          exact ⟨H4.out.old hk, h1, h2⟩)
        have HKK := Lib.hid HKT.out.1
        clear hk V1' V2 H4 HKT C0 C1 CI CT CN hult
        go_wp2_with fail
        go_loopw [11] (fun c wr => ∃ (i : Nat) (V : World), V = wr ∧ i ≤ K ∧ c = .int .i64 i ∧ Hid (Bth w d m s k u N2 vn vs vl p2 S2 M2 (flushed S2 M2) S2 (looseL S2 M2) V ∧ IntsAt W2.heap.size (.slice av K cv) (places S2.length M2) V ∧ IntsAt W3.heap.size (.slice av2 K cv2) (places S2.length M2) V)) (fun c _ => K - (RowKit.intOf c).toNat)
        case atStart => exact ⟨0, _, rfl, Nat.zero_le _, rfl, HJ0⟩
        case round =>
          obtain ⟨i, V, rfl, hi, rfl, HI⟩ := hrel
          clear HJ0
          by_cases hiK : i < K
          · have f0 : (0 : Int) ≤ (i : Int) := by omega
            have f1 : (i : Int) < (K : Int) := by omega
            have hlen : i < (places S2.length M2).length := by rw [HKK.out]; exact hiK
            obtain ⟨a', c', e', hc1⟩ := HI.out.2.1.shape
            obtain ⟨a'', c'', e'', hc2⟩ := HI.out.2.2.shape
            simp only [Value.slice.injEq] at e' e''
            obtain ⟨g1, ea1, _, _, hc1⟩ := hc1 (Nat.lt_of_le_of_lt (Nat.zero_le _) hlen)
            obtain ⟨g2, ea2, _, _, hc2⟩ := hc2 (Nat.lt_of_le_of_lt (Nat.zero_le _) hlen)
            obtain ⟨kk, hkk⟩ : ∃ kk, (places S2.length M2)[i]? = some kk := ⟨_, List.getElem?_eq_getElem hlen⟩
            have x1 := hc1 i kk hkk
            have x2 := hc2 i kk hkk
            have E1 : av = some ⟨g1, 0, none⟩ := e'.1.trans ea1
            have E2 : av2 = some ⟨g2, 0, none⟩ := e''.1.trans ea2
            clear e' e'' ea1 ea2 hc1 hc2 hkk hlen
            subst E1 E2
            have HI2 := Lib.hid fun q => And.intro (HI.out.1.old ((KeptIn.refl _ V).drewN q)) (And.intro (HI.out.2.1.old ((KeptIn.refl _ V).drewN q)) (HI.out.2.2.old ((KeptIn.refl _ V).drewN q)))
            clear HI
            go_wp2_with fail
            go_quiet (fail)
            go_wp2_with fail
            go_roundw
            case rel => exact ⟨i + 1, _, rfl, hiK, by go_num, Lib.hid (HI2.out _)⟩
            case measure => simp [RowKit.intOf]; omega
          · obtain rfl : i = K := by omega
            have HR : Hid (N2 ≤ 5 * (j + 1) ∧ Round w d m s k u N2 vn vs vl V) := Lib.hid ⟨HN2.out, p2, S2, M2, HI.out.1⟩
            clear HI
            go_wp2_with fail
            go_roundw
            case rel => exact ⟨j + 1, N2, _, rfl, hlt, hlt6, by go_num, HR⟩
            case measure => simp [RowKit.intOf]; omega
      · have d2 : (60 : Int) ≤ (j : Int) := by omega
        obtain ⟨hN, p, S, M, hB⟩ := HJ.out
        have HK := Lib.hid hB.dv.kept
        clear hB HJ
        go_wp2_with fail
        go_ret
        exact ⟨rfl, HK.out⟩
    · have d1 : (len1 : Int) ≤ (j : Int) := by omega
      obtain ⟨hN, p, S, M, hB⟩ := HJ.out
      have HK := Lib.hid hB.dv.kept
      clear hB HJ
      go_wp2_with fail
      go_ret
      exact ⟨rfl, HK.out⟩

end Go.Proofs.Ytbgkfeikfkbfmaa
