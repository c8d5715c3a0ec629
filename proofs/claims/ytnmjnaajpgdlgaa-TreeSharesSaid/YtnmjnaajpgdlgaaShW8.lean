/- TreeShares of layer 8: the walk: it returns true for every input and writes nothing that was there. -/
import Derived.Test.YtnmjnaajpgdlgaaAw8
import Derived.Test.YtnmjnaajpgdlgaaHs8
import Derived.Test.YtnmjnaajpgdlgaaNums
import Derived.Test.YtnmjnaajpgdlgaaArgs
import Derived.Test.YtnmjnaajpgdlgaaBools
import Derived.Test.YtnmjnaajpgdlgaaRef5
set_option linter.unusedVariables false
namespace Go.Proofs.Ytnmjnaajpgdlgaa
open Go.RowKit

theorem infoPairs8 : (Try.prog.info? 29).map (fun i => (i.zero, i.size, i.bytes)) = some (some (.slice none 0 0), 1, 24) := by kernel_rfl

theorem own_shape {w : World} {B n : Nat} {T : TypeId} {v : Value} {xs : List Value} (h : w.ownsRow B T 1 v n xs) (h0 : 0 < n) : ∃ g cap, v = .slice (some ⟨g, 0, none⟩) n cap := by
  rcases h.2 with ⟨_, h1⟩ | ⟨g, cap, cur, rfl, _⟩
  · omega
  · exact ⟨g, cap, rfl⟩

/-- What the law begins with. -/
theorem hst_zero (w3 W : World) (s : Nat) (hs : w3.heap.size = s)
    (hW : W = (((w3.alloc (.cells #[.slice none 0 0, .int .i64 511] 28)).alloc (.cells #[.int .i64 0] 3)).alloc (.cells #[] 38)).alloc (.cells #[.slice (some ⟨s + 2, 0, none⟩) 0 0] 29)) :
    HstI w3 s 0 0 8 [] [] (fun k => k = s) [0] [[]] [.slice (some ⟨s + 2, 0, none⟩) 0 0] (.slice (some ⟨s + 1, 0, none⟩) 1 1) (.slice (some ⟨s + 3, 0, none⟩) 1 1) W := by
  obtain ⟨W1, h1⟩ : ∃ W1, w3.alloc (.cells #[.slice none 0 0, .int .i64 511] 28) = W1 := ⟨_, rfl⟩
  obtain ⟨W2, h2⟩ : ∃ W2, W1.alloc (.cells #[.int .i64 0] 3) = W2 := ⟨_, rfl⟩
  obtain ⟨W3, h3⟩ : ∃ W3, W2.alloc (.cells #[] 38) = W3 := ⟨_, rfl⟩
  rw [h1, h2, h3] at hW
  have z1 : W1.heap.size = s + 1 := by rw [← h1, ← hs]; simp
  have z2 : W2.heap.size = s + 2 := by rw [← h2]; simp [z1]
  have z3 : W3.heap.size = s + 3 := by rw [← h3]; simp [z2]
  have k1 : KeptIn (· < w3.heap.size) w3 W1 := by rw [← h1]; exact (KeptIn.refl _ w3).alloc (fun _ h => h) _
  have k2 : KeptIn (· < W1.heap.size) W1 W2 := by rw [← h2]; exact (KeptIn.refl _ W1).alloc (fun _ h => h) _
  have k3 : KeptIn (· < W2.heap.size) W2 W3 := by rw [← h3]; exact (KeptIn.refl _ W2).alloc (fun _ h => h) _
  have k4 : KeptIn (· < W3.heap.size) W3 W := by rw [hW]; exact (KeptIn.refl _ W3).alloc (fun _ h => h) _
  obtain ⟨t1, _⟩ := tm_new w3 511 (by decide) W1 h1.symm
  rw [hs] at t1
  have b1 : W.heap[s + 1]? = some (.cells #[.int .i64 0] 3 (0, 0)) := (k4.block _ (by omega)).trans ((k3.block _ (by omega)).trans (by rw [← h2, ← z1]; exact heap_alloc_new W1 _))
  have b3 : W.heap[s + 3]? = some (.cells #[.slice (some ⟨s + 2, 0, none⟩) 0 0] 29 (0, 0)) := by rw [hW, ← z3]; exact heap_alloc_new W3 _
  refine ⟨((t1.old k2).old k3).old k4, fun k hk => by omega, by simp, TrI.zero, fun i r p e1 e2 => ?_, ⟨rfl, .inr ⟨s + 1, 1, _, rfl, by omega, b1, Nat.le_refl _, by decide, rfl, rfl⟩⟩, ⟨rfl, .inr ⟨s + 3, 1, _, rfl, by omega, b3, Nat.le_refl _, by decide, rfl, rfl⟩⟩, rfl, fun i v p e1 e2 => ?_, fun k hk => by simp [Value.ownBlock]; omega, fun k hk => by simp [Value.ownBlock]; omega, ((k1.go k2).go k3).go k4⟩
  · cases i with
    | zero =>
      simp only [List.getElem?_cons_zero, Option.some.injEq] at e1 e2
      subst e1 e2
      exact ⟨TrI.zero.mono (by omega), by simp⟩
    | succ i => simp at e1
  · cases i with
    | zero =>
      simp only [List.getElem?_cons_zero, Option.some.injEq] at e1 e2
      subst e1 e2
      exact ⟨_, 0, rfl, ⟨by simp, (fun p h => by cases h), (fun h => by simp at h)⟩, fun h => by simp at h⟩
    | succ i => simp at e1

theorem hsRange {W : World} {s root f : Nat} {N : List Nd} {D : Nat → Prop} {qs : Pairs} (h : IsSh W s 511 N D) (ht : TrI N root qs f) (hq : qs.length ≤ 100) (hk : ∀ q ∈ qs, q.1 ≤ 18446744073709551615) :
    Calls Try.prog 14 #[pgV s, .int .i64 (root : Int), .int .u64 0, .int .u64 18446744073709551615] W (RngS W qs) := by
  obtain ⟨l, g, t1, t2, t3, t4⟩ := ht
  have := trRange h.len h 0 18446744073709551615 (by decide) (by decide) t1 (by omega)
  rw [rng_all fun q hq => ⟨Nat.zero_le _, hk q hq⟩] at this
  exact this
theorem TrI.high {N : List Nd} {root f : Nat} {qs : Pairs} (h : TrI N root qs f) : ∀ q ∈ qs, q.1 ≤ 18446744073709551615 := by
  obtain ⟨l, g, t1, _⟩ := h
  exact t1.le

theorem hsCheck {W : World} {s root f : Nat} {N : List Nd} {D : Nat → Prop} {qs : Pairs} (h : IsSh W s 511 N D) (ht : TrI N root qs f) :
    Calls Try.prog 17 #[pgV s, .int .i64 (root : Int)] W fun e w' => e = .returned (.int .i64 0) ∧ KeptIn (· < W.heap.size) W w' := by
  obtain ⟨l, g, t1, t2, t3, t4⟩ := ht
  exact trCheck h.len h t1 t2



set_option maxHeartbeats 16000000 in
set_option maxRecDepth 100000 in
theorem shW8 (a0 : Option Addr) (len0 cap0 : Nat) (z0 : List Int) (a1 : Option Addr) (len1 cap1 : Nat) (w : World) (w0 : IsRow .i64 w a0 len0 cap0 z0) (w1 : IsBools w a1 len1) :
    Calls Try.prog 4 #[.slice a0 len0 cap0, .slice a1 len1 cap1] w fun e w' => e = .returned (.bool true) ∧ KeptIn (· < w.heap.size) w w' := by
  have l0 := w0.len_le
  have l1 := w1.len_le
  unfold maxLen at l0 l1
  have b0 : (len0 : Int) ≤ 9223372036854775807 := by omega
  have b1 : (len1 : Int) ≤ 9223372036854775807 := by omega
  have W0 := Lib.hid w0
  have W1 := Lib.hid w1
  clear w0 w1 l0 l1
  obtain ⟨ii, hii, hi0, hi1, hi2⟩ := info_parts infoInt8
  obtain ⟨ip, hip, hp0, hp1, hp2⟩ := info_parts infoPairs8
  go_enter Try.func4, Try.ntmps4
  go_wp2_with fail
  refine (awake8 w).mono ?_
  rintro e w3 ⟨rfl, k3⟩
  have HK3 := Lib.hid k3
  have H00 := Lib.hid (hst_zero w3 _ w3.heap.size rfl rfl)
  clear k3
  go_wp2_with fail
  obtain ⟨W, hW⟩ : ∃ W, (((w3.alloc (.cells #[.slice none 0 0, .int .i64 511] 28)).alloc (.cells #[.int .i64 0] 3)).alloc (.cells #[] 38)).alloc (.cells #[.slice (some ⟨w3.heap.size + 2, 0, none⟩) 0 0] 29) = W := ⟨_, rfl⟩
  rw [hW] at H00 ⊢
  obtain ⟨s, hs⟩ : ∃ s, w3.heap.size = s := ⟨_, rfl⟩
  simp only [hs] at H00 ⊢
  have HSE := Lib.hid hs
  clear hW hs
  have HI0 : Hid (HstI w3 s (5 * 0) 0 (8 + 0) [] [] (fun k => k = s) [0] [[]] [.slice (some ⟨s + 2, 0, none⟩) 0 0] (.slice (some ⟨s + 1, 0, none⟩) 1 1) (.slice (some ⟨s + 3, 0, none⟩) 1 1) W ∧ [0].length = 0 + 1 ∧ ([[]] : List Pairs).length = 0 + 1 ∧ ([] : Pairs).length ≤ 0) := Lib.hid ⟨H00.out, rfl, rfl, Nat.le_refl _⟩
  clear H00
  go_loopw [6, 7, 8, 9, 10, 11, 12, 13, 14] (fun v1 v2 r i _ _ _ _ _ wr => ∃ (j root : Nat) (V : World) (qs : Pairs) (N : List Nd) (D : Nat → Prop) (R : List Nat) (Q : List Pairs) (vs : List Value) (u1 u2 : Value), V = wr ∧ u1 = v1 ∧ u2 = v2 ∧ j ≤ 40 ∧ j ≤ len0 ∧ j ≤ len1 ∧ i = .int .i64 (j : Int) ∧ r = .int .i64 (root : Int) ∧ Hid (HstI w3 s (5 * j) root (8 + j) qs N D R Q vs u1 u2 V ∧ R.length = j + 1 ∧ Q.length = j + 1 ∧ qs.length ≤ j)) (fun _ _ _ i _ _ _ _ _ _ => 40 - (intOf i).toNat)
  case atStart => exact ⟨0, 0, _, _, _, _, _, _, _, _, _, rfl, rfl, rfl, by omega, by omega, by omega, rfl, rfl, HI0⟩
  case round =>
    obtain ⟨j, root, V, qs, N, D, R, Q, vs, u1, u2, rfl, rfl, rfl, hj, hj0, hj1, rfl, rfl, HJ⟩ := hrel
    clear HI0
    have i0 : (0 : Int) ≤ (j : Int) := by omega
    by_cases hl0 : j < len0
    · have t0 : (j : Int) < (len0 : Int) := by omega
      by_cases hl1 : j < len1
      · have t1 : (j : Int) < (len1 : Int) := by omega
        by_cases hl2 : j < 40
        · have t2 : (j : Int) < 40 := by omega
          obtain ⟨ba, oa, rfl, hba, hca⟩ := W0.out.elem (by omega)
          obtain ⟨bb, ob, rfl, hbb, _, hcb⟩ : ∃ b off, a1 = some ⟨b, off, none⟩ ∧ b < w.heap.size ∧ len1 ≤ maxLen ∧ _ := W1.out.resolve_left (by omega)
          obtain ⟨ca, fa⟩ := hca j (by omega)
          obtain ⟨dr, cb⟩ := hcb j hl1
          have hkw : KeptIn (· < w.heap.size) w V := HK3.out.trans (HJ.out.1.kept.mono fun k hk => Nat.lt_of_lt_of_le hk HK3.out.size)
          have g0 := (World.cell?_of_block (a := ⟨ba, oa + j, none⟩) (hkw.block ba hba)).trans ca
          have g1 := (World.cell?_of_block (a := ⟨bb, ob + j, none⟩) (hkw.block bb hbb)).trans cb
          obtain ⟨q, hq60, hqw⟩ : ∃ x : Nat, x < 60 ∧ wrap64 ((IntKind.u64.wrap (z0.getD j 0)).tmod 60) = (x : Int) := modWalk _ 60 (by decide) (by decide)
          generalize z0.getD j 0 = z at *
          have q0 : (0 : Int) ≤ (q : Int) := by omega
          have q1 : (q : Int) < 60 := by omega
          have q2 : IntKind.u64.wrap (q : Int) = (q : Int) := by rw [IntKind.wrap_u64]; omega
          have q3 : IntKind.u64.wrap (j : Int) = (j : Int) := by rw [IntKind.wrap_u64]; omega
          clear hca fa ca hcb cb hkw
          cases dr with
          | true =>
            have HC := Lib.hid (hsDrop (k := q) HJ.out.1.sh HJ.out.1.cur (by have := HJ.out.1.nlen; omega) (by omega))
            unfold pgV at HC
            go_wp2_with fail
            refine HC.out.mono ?_
            rintro e V2 ⟨r, bd, rfl, hch⟩
            have hql2 : (chg [] q qs).length ≤ j + 1 := by have := chg_len_le [] q qs; have := HJ.out.2.2.2; simp at *; omega
            obtain ⟨qs2, hqs2⟩ : ∃ qs2, chg [] q qs = qs2 := ⟨_, rfl⟩
            rw [hqs2] at hch hql2
            clear hqs2 HC g0 g1
            have HH2 := Lib.hid (HJ.out.1.change hch)
            obtain ⟨M, D2, hH2⟩ := HH2.out
            have HQL : Hid (qs2.length ≤ j + 1 ∧ KeptIn (· < w3.heap.size) w3 V2) := Lib.hid ⟨hql2, hH2.kept⟩
            have hRG := hsRange hH2.sh hH2.cur (by omega) hH2.cur.high
            have HRG := Lib.hid hRG
            have H2 := Lib.hid hH2
            unfold pgV at HRG
            clear hRG hH2 hch hql2 HH2
            go_wp2_with fail
            refine HRG.out.mono ?_
            rintro e V3 hR
            unfold RngS at hR
            obtain ⟨vv, rfl, hrow, hfit, hk3⟩ := hR
            have hpe := psE_of hrow hfit
            obtain ⟨aL, cL, rfl, -⟩ := row_slice hrow
            obtain ⟨nq, hnq⟩ : ∃ nq, qs2.length = nq := ⟨_, rfl⟩
            rw [hnq] at hpe ⊢
            have H3 := Lib.hid (H2.out.old hk3)
            have HPE := Lib.hid hpe
            clear hrow hfit hk3 hpe HRG H2
            go_wp2_with (first
              | (at_builtin; refine wpList_append_lies _ rfl _ _ 51 rfl w3.heap.size 3 ii _ 1 8 Try.underlying51 hii hi0 hi1 hi2 rfl (by decide) _ _ _ rfl (H3.out.r1.alloc _) ⟨V3.heap.size, 0, none⟩ 1 1 [.int .i64 (r : Int)] rfl rfl (cell_one_new _ _ _) (by simp [Value.oneCell']) (by omega) (by rw [HJ.out.2.1]; unfold maxLen; omega) (by rw [HJ.out.2.1]; omega) (by simp; have := H3.out.kept.size; omega) (V3.heap.size + 1) (by simp) ?_; intro g1 cp1 V4 hown1 hgrow1 hat1 hlt1; have H4 := Lib.hid (H3.out.push1 (by rw [HJ.out.2.1, HJ.out.2.2.1]) hgrow1 hat1 hown1); have HP4 := Lib.hid (HPE.out.kept (grow_kept hgrow1) (fun k hk2 => ⟨hk2.lt, fun e => by obtain ⟨cs, fr, hb⟩ := hk2; exact rowS_ne H3.out.r1 hb (by decide) e⟩)); clear hown1 hgrow1 hat1 hlt1)
              | (at_builtin; refine wpList_append_lies _ rfl _ _ 60 rfl w3.heap.size 29 ip _ 1 24 Try.underlying60 hip hp0 hp1 hp2 rfl (by decide) _ _ _ rfl (H4.out.r2.alloc _) ⟨V4.heap.size, 0, none⟩ 1 1 [.slice aL nq cL] rfl rfl (cell_one_new _ _ _) (by simp [Value.oneCell']) (by omega) (by rw [HJ.out.2.2.1]; unfold maxLen; omega) (by rw [HJ.out.2.2.1]; omega) (by simp; have := H4.out.kept.size; omega) (V4.heap.size + 1) (by simp) ?_; intro g2 cp2 V5 hown2 hgrow2 hat2 hlt2; have H5 := Lib.hid (H4.out.push2 (by rw [HJ.out.2.2.1, ← HJ.out.2.1, List.getElem?_append_right (Nat.le_refl _), Nat.sub_self]; rfl) (by omega) (by have := HQL.out.1; omega) HP4.out hgrow2 hat2 hown2); clear hown2 hgrow2 hat2 hlt2))
            go_roundw
            case rel => exact ⟨j + 1, r, _, qs2, _, _, _, _, _, _, _, rfl, rfl, rfl, by omega, by omega, by omega, by go_num, rfl, Lib.hid ⟨H5.out, by rw [List.length_append, HJ.out.2.1]; rfl, by rw [List.length_append, HJ.out.2.2.1]; rfl, HQL.out.1⟩⟩
            case measure => simp only [intOf]; omega
          | false =>
            have HC := Lib.hid (hsPut (k := q) (v := j) HJ.out.1.sh HJ.out.1.cur (by have := HJ.out.1.nlen; omega) (by omega) (by omega) (by omega) (by omega))
            unfold pgV at HC
            go_wp2_with fail
            refine HC.out.mono ?_
            rintro e V2 ⟨r, rfl, hch⟩
            have hql2 : (chg [(q, j)] q qs).length ≤ j + 1 := by have := chg_len_le [(q, j)] q qs; have := HJ.out.2.2.2; simp at *; omega
            obtain ⟨qs2, hqs2⟩ : ∃ qs2, chg [(q, j)] q qs = qs2 := ⟨_, rfl⟩
            rw [hqs2] at hch hql2
            clear hqs2 HC g0 g1
            have HH2 := Lib.hid (HJ.out.1.change hch)
            obtain ⟨M, D2, hH2⟩ := HH2.out
            have HQL : Hid (qs2.length ≤ j + 1 ∧ KeptIn (· < w3.heap.size) w3 V2) := Lib.hid ⟨hql2, hH2.kept⟩
            have hRG := hsRange hH2.sh hH2.cur (by omega) hH2.cur.high
            have HRG := Lib.hid hRG
            have H2 := Lib.hid hH2
            unfold pgV at HRG
            clear hRG hH2 hch hql2 HH2
            go_wp2_with fail
            refine HRG.out.mono ?_
            rintro e V3 hR
            unfold RngS at hR
            obtain ⟨vv, rfl, hrow, hfit, hk3⟩ := hR
            have hpe := psE_of hrow hfit
            obtain ⟨aL, cL, rfl, -⟩ := row_slice hrow
            obtain ⟨nq, hnq⟩ : ∃ nq, qs2.length = nq := ⟨_, rfl⟩
            rw [hnq] at hpe ⊢
            have H3 := Lib.hid (H2.out.old hk3)
            have HPE := Lib.hid hpe
            clear hrow hfit hk3 hpe HRG H2
            go_wp2_with (first
              | (at_builtin; refine wpList_append_lies _ rfl _ _ 51 rfl w3.heap.size 3 ii _ 1 8 Try.underlying51 hii hi0 hi1 hi2 rfl (by decide) _ _ _ rfl (H3.out.r1.alloc _) ⟨V3.heap.size, 0, none⟩ 1 1 [.int .i64 (r : Int)] rfl rfl (cell_one_new _ _ _) (by simp [Value.oneCell']) (by omega) (by rw [HJ.out.2.1]; unfold maxLen; omega) (by rw [HJ.out.2.1]; omega) (by simp; have := H3.out.kept.size; omega) (V3.heap.size + 1) (by simp) ?_; intro g1 cp1 V4 hown1 hgrow1 hat1 hlt1; have H4 := Lib.hid (H3.out.push1 (by rw [HJ.out.2.1, HJ.out.2.2.1]) hgrow1 hat1 hown1); have HP4 := Lib.hid (HPE.out.kept (grow_kept hgrow1) (fun k hk2 => ⟨hk2.lt, fun e => by obtain ⟨cs, fr, hb⟩ := hk2; exact rowS_ne H3.out.r1 hb (by decide) e⟩)); clear hown1 hgrow1 hat1 hlt1)
              | (at_builtin; refine wpList_append_lies _ rfl _ _ 60 rfl w3.heap.size 29 ip _ 1 24 Try.underlying60 hip hp0 hp1 hp2 rfl (by decide) _ _ _ rfl (H4.out.r2.alloc _) ⟨V4.heap.size, 0, none⟩ 1 1 [.slice aL nq cL] rfl rfl (cell_one_new _ _ _) (by simp [Value.oneCell']) (by omega) (by rw [HJ.out.2.2.1]; unfold maxLen; omega) (by rw [HJ.out.2.2.1]; omega) (by simp; have := H4.out.kept.size; omega) (V4.heap.size + 1) (by simp) ?_; intro g2 cp2 V5 hown2 hgrow2 hat2 hlt2; have H5 := Lib.hid (H4.out.push2 (by rw [HJ.out.2.2.1, ← HJ.out.2.1, List.getElem?_append_right (Nat.le_refl _), Nat.sub_self]; rfl) (by omega) (by have := HQL.out.1; omega) HP4.out hgrow2 hat2 hown2); clear hown2 hgrow2 hat2 hlt2))
            go_roundw
            case rel => exact ⟨j + 1, r, _, qs2, _, _, _, _, _, _, _, rfl, rfl, rfl, by omega, by omega, by omega, by go_num, rfl, Lib.hid ⟨H5.out, by rw [List.length_append, HJ.out.2.1]; rfl, by rw [List.length_append, HJ.out.2.2.1]; rfl, HQL.out.1⟩⟩
            case measure => simp only [intOf]; omega
        · have t2 : ¬ (j : Int) < 40 := by omega
          obtain ⟨g1, c1, rfl⟩ := own_shape HJ.out.1.r1 (by rw [HJ.out.2.1]; omega)
          obtain ⟨g2, c2, rfl⟩ := own_shape HJ.out.1.r2 (by rw [HJ.out.2.2.1]; omega)
          have hR := HJ.out.2.1
          have hQ := HJ.out.2.2.1
          have H0 := Lib.hid HJ.out.1
          obtain ⟨n, hn⟩ : ∃ n, j + 1 = n := ⟨_, rfl⟩
          rw [hn] at hR hQ
          rw [hR, hQ] at H0 ⊢
          have HL := Lib.hid (And.intro hR hQ)
          have hn41 : n ≤ 41 := by omega
          have hnI : (n : Int) ≤ 41 := by omega
          clear HJ hR hQ hn
          go_wp2_with fail
          go_loopw [15, 16, 17] (fun i _ _ wr => ∃ (t : Nat) (U : World), U = wr ∧ t ≤ n ∧ i = .int .i64 (t : Int) ∧ Hid (HstI w3 s (5 * j) root (8 + j) qs N D R Q vs (.slice (some ⟨g1, 0, none⟩) n c1) (.slice (some ⟨g2, 0, none⟩) n c2) U)) (fun i _ _ _ => n - (intOf i).toNat)
          case atStart => exact ⟨0, _, rfl, Nat.zero_le _, rfl, H0⟩
          case round =>
            obtain ⟨t, U, rfl, ht, rfl, HU⟩ := hrel
            clear H0
            by_cases hlt : t < n
            · have u1 : (t : Int) < (n : Int) := by omega
              have u0 : (0 : Int) ≤ (t : Int) := by omega
              obtain ⟨rr, hrr⟩ : ∃ rr, R[t]? = some rr := ⟨_, List.getElem?_eq_getElem (by rw [HL.out.1]; exact hlt)⟩
              obtain ⟨pp, hpp⟩ : ∃ pp, Q[t]? = some pp := ⟨_, List.getElem?_eq_getElem (by rw [HL.out.2]; exact hlt)⟩
              obtain ⟨vv, hvv⟩ : ∃ vv, vs[t]? = some vv := ⟨_, List.getElem?_eq_getElem (by rw [HU.out.vl, HL.out.2]; exact hlt)⟩
              have hall := HU.out.all t rr pp hrr hpp
              obtain ⟨ga, ca, ea, hc1, hg1⟩ := own_at HU.out.r1 (j := t) (u := .int .i64 (rr : Int)) (by rw [List.getElem?_map, hrr]; rfl) (by rw [List.length_map])
              obtain ⟨gb, cb, eb, hc2, hg2⟩ := own_at HU.out.r2 (j := t) hvv HU.out.vl
              simp only [Value.slice.injEq, Option.some.injEq, Addr.mk.injEq, and_true] at ea eb
              obtain ⟨rfl, -⟩ := ea
              obtain ⟨rfl, -⟩ := eb
              obtain ⟨a2, cp2, rfl, hps2, -⟩ := HU.out.va t vv pp hvv hpp
              have HRG := Lib.hid (hsRange HU.out.sh hall.1 hall.2 hall.1.high)
              have HALL := Lib.hid hall
              have HPS := Lib.hid (And.intro hps2 (And.intro hc1 (And.intro hc2 (And.intro hg1 hg2))))
              unfold pgV at HRG
              obtain ⟨np, hnp⟩ : ∃ np, pp.length = np := ⟨_, rfl⟩
              have HNP := Lib.hid hnp
              rw [hnp] at hc2
              clear hall hps2 hg1 hg2 hrr hpp hvv hnp ht hc2
              go_wp2_with fail
              refine HRG.out.mono ?_
              rintro e V3 hX
              unfold RngS at hX
              obtain ⟨wv, rfl, hrow, hfit, hk3⟩ := hX
              obtain ⟨aL, cL, rfl, -⟩ := row_slice hrow
              have hps3 := row_IsPs hrow hfit
              have hP := r5Pairs aL a2 cL cp2 pp pp V3 hps3 (HPS.out.1.old hk3)
              rw [decide_eq_true rfl, HNP.out] at hP
              have HP := Lib.hid hP
              have HU3 := Lib.hid (HU.out.old hk3)
              have e2 : V3.cell? ⟨g2, t, none⟩ = some (.slice a2 np cp2) := by
                have := (World.cell?_of_block (a := ⟨g2, t, none⟩) (hk3.block g2 HPS.out.2.2.2.2)).trans HPS.out.2.2.1
                rw [HNP.out] at this
                exact this
              have HK3' := Lib.hid hk3
              rw [HNP.out]
              clear hP hps3 hrow hfit hk3 hc1 HRG
              go_wp2_with fail
              refine HP.out.mono ?_
              rintro e V4 ⟨rfl, hk4⟩
              have HU4 := Lib.hid (HU3.out.old hk4)
              have e1 : V4.cell? ⟨g1, t, none⟩ = some (.int .i64 (rr : Int)) := (World.cell?_of_block (a := ⟨g1, t, none⟩) ((HK3'.out.go hk4).block g1 HPS.out.2.2.2.1)).trans HPS.out.2.1
              have HCk := Lib.hid (hsCheck HU4.out.sh HALL.out.1)
              unfold pgV at HCk
              clear hk4 e2 HP HU3
              go_wp2_with fail
              refine HCk.out.mono ?_
              rintro e V5 ⟨rfl, hk5⟩
              have HU5 := Lib.hid (HU4.out.old hk5)
              clear hk5 e1 HCk HU4
              go_wp2_with fail
              go_roundw
              case rel => exact ⟨t + 1, _, rfl, by omega, by go_num, HU5⟩
              case measure => simp only [intOf]; omega
            · have u1 : ¬ (t : Int) < (n : Int) := by omega
              have HE : Hid (KeptIn (· < w.heap.size) w U) := Lib.hid (HK3.out.trans (HU.out.kept.mono fun k hk => Nat.lt_of_lt_of_le hk HK3.out.size))
              clear HU ht hlt
              go_wp2_with fail
              go_ret
              exact ⟨rfl, HE.out⟩
      · have t1 : ¬ (j : Int) < (len1 : Int) := by omega
        obtain ⟨g1, c1, rfl⟩ := own_shape HJ.out.1.r1 (by rw [HJ.out.2.1]; omega)
        obtain ⟨g2, c2, rfl⟩ := own_shape HJ.out.1.r2 (by rw [HJ.out.2.2.1]; omega)
        have hR := HJ.out.2.1
        have hQ := HJ.out.2.2.1
        have H0 := Lib.hid HJ.out.1
        obtain ⟨n, hn⟩ : ∃ n, j + 1 = n := ⟨_, rfl⟩
        rw [hn] at hR hQ
        rw [hR, hQ] at H0 ⊢
        have HL := Lib.hid (And.intro hR hQ)
        have hn41 : n ≤ 41 := by omega
        have hnI : (n : Int) ≤ 41 := by omega
        clear HJ hR hQ hn
        go_wp2_with fail
        go_loopw [15, 16, 17] (fun i _ _ wr => ∃ (t : Nat) (U : World), U = wr ∧ t ≤ n ∧ i = .int .i64 (t : Int) ∧ Hid (HstI w3 s (5 * j) root (8 + j) qs N D R Q vs (.slice (some ⟨g1, 0, none⟩) n c1) (.slice (some ⟨g2, 0, none⟩) n c2) U)) (fun i _ _ _ => n - (intOf i).toNat)
        case atStart => exact ⟨0, _, rfl, Nat.zero_le _, rfl, H0⟩
        case round =>
          obtain ⟨t, U, rfl, ht, rfl, HU⟩ := hrel
          clear H0
          by_cases hlt : t < n
          · have u1 : (t : Int) < (n : Int) := by omega
            have u0 : (0 : Int) ≤ (t : Int) := by omega
            obtain ⟨rr, hrr⟩ : ∃ rr, R[t]? = some rr := ⟨_, List.getElem?_eq_getElem (by rw [HL.out.1]; exact hlt)⟩
            obtain ⟨pp, hpp⟩ : ∃ pp, Q[t]? = some pp := ⟨_, List.getElem?_eq_getElem (by rw [HL.out.2]; exact hlt)⟩
            obtain ⟨vv, hvv⟩ : ∃ vv, vs[t]? = some vv := ⟨_, List.getElem?_eq_getElem (by rw [HU.out.vl, HL.out.2]; exact hlt)⟩
            have hall := HU.out.all t rr pp hrr hpp
            obtain ⟨ga, ca, ea, hc1, hg1⟩ := own_at HU.out.r1 (j := t) (u := .int .i64 (rr : Int)) (by rw [List.getElem?_map, hrr]; rfl) (by rw [List.length_map])
            obtain ⟨gb, cb, eb, hc2, hg2⟩ := own_at HU.out.r2 (j := t) hvv HU.out.vl
            simp only [Value.slice.injEq, Option.some.injEq, Addr.mk.injEq, and_true] at ea eb
            obtain ⟨rfl, -⟩ := ea
            obtain ⟨rfl, -⟩ := eb
            obtain ⟨a2, cp2, rfl, hps2, -⟩ := HU.out.va t vv pp hvv hpp
            have HRG := Lib.hid (hsRange HU.out.sh hall.1 hall.2 hall.1.high)
            have HALL := Lib.hid hall
            have HPS := Lib.hid (And.intro hps2 (And.intro hc1 (And.intro hc2 (And.intro hg1 hg2))))
            unfold pgV at HRG
            obtain ⟨np, hnp⟩ : ∃ np, pp.length = np := ⟨_, rfl⟩
            have HNP := Lib.hid hnp
            rw [hnp] at hc2
            clear hall hps2 hg1 hg2 hrr hpp hvv hnp ht hc2
            go_wp2_with fail
            refine HRG.out.mono ?_
            rintro e V3 hX
            unfold RngS at hX
            obtain ⟨wv, rfl, hrow, hfit, hk3⟩ := hX
            obtain ⟨aL, cL, rfl, -⟩ := row_slice hrow
            have hps3 := row_IsPs hrow hfit
            have hP := r5Pairs aL a2 cL cp2 pp pp V3 hps3 (HPS.out.1.old hk3)
            rw [decide_eq_true rfl, HNP.out] at hP
            have HP := Lib.hid hP
            have HU3 := Lib.hid (HU.out.old hk3)
            have e2 : V3.cell? ⟨g2, t, none⟩ = some (.slice a2 np cp2) := by
              have := (World.cell?_of_block (a := ⟨g2, t, none⟩) (hk3.block g2 HPS.out.2.2.2.2)).trans HPS.out.2.2.1
              rw [HNP.out] at this
              exact this
            have HK3' := Lib.hid hk3
            rw [HNP.out]
            clear hP hps3 hrow hfit hk3 hc1 HRG
            go_wp2_with fail
            refine HP.out.mono ?_
            rintro e V4 ⟨rfl, hk4⟩
            have HU4 := Lib.hid (HU3.out.old hk4)
            have e1 : V4.cell? ⟨g1, t, none⟩ = some (.int .i64 (rr : Int)) := (World.cell?_of_block (a := ⟨g1, t, none⟩) ((HK3'.out.go hk4).block g1 HPS.out.2.2.2.1)).trans HPS.out.2.1
            have HCk := Lib.hid (hsCheck HU4.out.sh HALL.out.1)
            unfold pgV at HCk
            clear hk4 e2 HP HU3
            go_wp2_with fail
            refine HCk.out.mono ?_
            rintro e V5 ⟨rfl, hk5⟩
            have HU5 := Lib.hid (HU4.out.old hk5)
            clear hk5 e1 HCk HU4
            go_wp2_with fail
            go_roundw
            case rel => exact ⟨t + 1, _, rfl, by omega, by go_num, HU5⟩
            case measure => simp only [intOf]; omega
          · have u1 : ¬ (t : Int) < (n : Int) := by omega
            have HE : Hid (KeptIn (· < w.heap.size) w U) := Lib.hid (HK3.out.trans (HU.out.kept.mono fun k hk => Nat.lt_of_lt_of_le hk HK3.out.size))
            clear HU ht hlt
            go_wp2_with fail
            go_ret
            exact ⟨rfl, HE.out⟩
    · have t0 : ¬ (j : Int) < (len0 : Int) := by omega
      obtain ⟨g1, c1, rfl⟩ := own_shape HJ.out.1.r1 (by rw [HJ.out.2.1]; omega)
      obtain ⟨g2, c2, rfl⟩ := own_shape HJ.out.1.r2 (by rw [HJ.out.2.2.1]; omega)
      have hR := HJ.out.2.1
      have hQ := HJ.out.2.2.1
      have H0 := Lib.hid HJ.out.1
      obtain ⟨n, hn⟩ : ∃ n, j + 1 = n := ⟨_, rfl⟩
      rw [hn] at hR hQ
      rw [hR, hQ] at H0 ⊢
      have HL := Lib.hid (And.intro hR hQ)
      have hn41 : n ≤ 41 := by omega
      have hnI : (n : Int) ≤ 41 := by omega
      clear HJ hR hQ hn
      go_wp2_with fail
      go_loopw [15, 16, 17] (fun i _ _ wr => ∃ (t : Nat) (U : World), U = wr ∧ t ≤ n ∧ i = .int .i64 (t : Int) ∧ Hid (HstI w3 s (5 * j) root (8 + j) qs N D R Q vs (.slice (some ⟨g1, 0, none⟩) n c1) (.slice (some ⟨g2, 0, none⟩) n c2) U)) (fun i _ _ _ => n - (intOf i).toNat)
      case atStart => exact ⟨0, _, rfl, Nat.zero_le _, rfl, H0⟩
      case round =>
        obtain ⟨t, U, rfl, ht, rfl, HU⟩ := hrel
        clear H0
        by_cases hlt : t < n
        · have u1 : (t : Int) < (n : Int) := by omega
          have u0 : (0 : Int) ≤ (t : Int) := by omega
          obtain ⟨rr, hrr⟩ : ∃ rr, R[t]? = some rr := ⟨_, List.getElem?_eq_getElem (by rw [HL.out.1]; exact hlt)⟩
          obtain ⟨pp, hpp⟩ : ∃ pp, Q[t]? = some pp := ⟨_, List.getElem?_eq_getElem (by rw [HL.out.2]; exact hlt)⟩
          obtain ⟨vv, hvv⟩ : ∃ vv, vs[t]? = some vv := ⟨_, List.getElem?_eq_getElem (by rw [HU.out.vl, HL.out.2]; exact hlt)⟩
          have hall := HU.out.all t rr pp hrr hpp
          obtain ⟨ga, ca, ea, hc1, hg1⟩ := own_at HU.out.r1 (j := t) (u := .int .i64 (rr : Int)) (by rw [List.getElem?_map, hrr]; rfl) (by rw [List.length_map])
          obtain ⟨gb, cb, eb, hc2, hg2⟩ := own_at HU.out.r2 (j := t) hvv HU.out.vl
          simp only [Value.slice.injEq, Option.some.injEq, Addr.mk.injEq, and_true] at ea eb
          obtain ⟨rfl, -⟩ := ea
          obtain ⟨rfl, -⟩ := eb
          obtain ⟨a2, cp2, rfl, hps2, -⟩ := HU.out.va t vv pp hvv hpp
          have HRG := Lib.hid (hsRange HU.out.sh hall.1 hall.2 hall.1.high)
          have HALL := Lib.hid hall
          have HPS := Lib.hid (And.intro hps2 (And.intro hc1 (And.intro hc2 (And.intro hg1 hg2))))
          unfold pgV at HRG
          obtain ⟨np, hnp⟩ : ∃ np, pp.length = np := ⟨_, rfl⟩
          have HNP := Lib.hid hnp
          rw [hnp] at hc2
          clear hall hps2 hg1 hg2 hrr hpp hvv hnp ht hc2
          go_wp2_with fail
          refine HRG.out.mono ?_
          rintro e V3 hX
          unfold RngS at hX
          obtain ⟨wv, rfl, hrow, hfit, hk3⟩ := hX
          obtain ⟨aL, cL, rfl, -⟩ := row_slice hrow
          have hps3 := row_IsPs hrow hfit
          have hP := r5Pairs aL a2 cL cp2 pp pp V3 hps3 (HPS.out.1.old hk3)
          rw [decide_eq_true rfl, HNP.out] at hP
          have HP := Lib.hid hP
          have HU3 := Lib.hid (HU.out.old hk3)
          have e2 : V3.cell? ⟨g2, t, none⟩ = some (.slice a2 np cp2) := by
            have := (World.cell?_of_block (a := ⟨g2, t, none⟩) (hk3.block g2 HPS.out.2.2.2.2)).trans HPS.out.2.2.1
            rw [HNP.out] at this
            exact this
          have HK3' := Lib.hid hk3
          rw [HNP.out]
          clear hP hps3 hrow hfit hk3 hc1 HRG
          go_wp2_with fail
          refine HP.out.mono ?_
          rintro e V4 ⟨rfl, hk4⟩
          have HU4 := Lib.hid (HU3.out.old hk4)
          have e1 : V4.cell? ⟨g1, t, none⟩ = some (.int .i64 (rr : Int)) := (World.cell?_of_block (a := ⟨g1, t, none⟩) ((HK3'.out.go hk4).block g1 HPS.out.2.2.2.1)).trans HPS.out.2.1
          have HCk := Lib.hid (hsCheck HU4.out.sh HALL.out.1)
          unfold pgV at HCk
          clear hk4 e2 HP HU3
          go_wp2_with fail
          refine HCk.out.mono ?_
          rintro e V5 ⟨rfl, hk5⟩
          have HU5 := Lib.hid (HU4.out.old hk5)
          clear hk5 e1 HCk HU4
          go_wp2_with fail
          go_roundw
          case rel => exact ⟨t + 1, _, rfl, by omega, by go_num, HU5⟩
          case measure => simp only [intOf]; omega
        · have u1 : ¬ (t : Int) < (n : Int) := by omega
          have HE : Hid (KeptIn (· < w.heap.size) w U) := Lib.hid (HK3.out.trans (HU.out.kept.mono fun k hk => Nat.lt_of_lt_of_le hk HK3.out.size))
          clear HU ht hlt
          go_wp2_with fail
          go_ret
          exact ⟨rfl, HE.out⟩

end Go.Proofs.Ytnmjnaajpgdlgaa
