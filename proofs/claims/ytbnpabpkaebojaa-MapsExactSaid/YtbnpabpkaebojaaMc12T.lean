import Derived.Test.YtbnpabpkaebojaaMb12T
/- Package maps: List, Good. -/
set_option linter.unusedVariables false
namespace Go.Proofs.Ytbnpabpkaebojaa
open Go.RowKit

/-- What List answers: all entries, or that a pair is no entry's. -/
def MlS (w : World) (qs : Pairs) (e : Ending) (w' : World) : Prop :=
  (GoodM qs ∧ ∃ v, e = .returned (.tuple #[v, .int .i64 0]) ∧ w'.ownsRow w.heap.size 74 2 v qs.length (cellsE (esOf qs)) ∧ KeptIn (· < w.heap.size) w w') ∨ (¬ GoodM qs ∧ e = .returned (.tuple #[.slice none 0 0, .int .i64 3]) ∧ KeptIn (· < w.heap.size) w w')

theorem TrM.le {w0 W : World} {s room root f c : Nat} {qs : Pairs} (h : TrM w0 s room root qs f c W) : ∀ q ∈ qs, q.1 ≤ topH := by
  obtain ⟨N, D, h1, ⟨l, g, h2, _⟩, _⟩ := h
  exact h2.le
theorem goodM_not {qs : Pairs} {j : Nat} (hj : j < qs.length) (h : ¬ (keyAt qs j < 64 ∧ 1 ≤ valAt qs j ∧ valAt qs j ≤ 1023)) : ¬ GoodM qs := fun hg => h (hg.at hj)


set_option maxHeartbeats 4000000 in
set_option maxRecDepth 100000 in
theorem maList {w0 w : World} {s room root f c : Nat} {qs : Pairs} (h : TrM w0 s room root qs f c w) (hq : qs.length ≤ 1000) :
    Calls Try.prog 25 #[pgV s, .int .i64 (root : Int)] w (MlS w qs) := by
  have hra : rng 0 18446744073709551615 qs = qs := rng_all fun q hq => ⟨Nat.zero_le _, h.le q hq⟩
  have hRG := tmRange h 0 18446744073709551615 (by decide) (by decide) (by omega)
  rw [hra] at hRG
  have HRG := Lib.hid hRG
  clear h hra hRG
  unfold pgV at HRG ⊢
  obtain ⟨ii, hii, hz0, hz1, hz2⟩ := info_parts infoEnt
  go_enter Try.func25, Try.ntmps25
  go_wp2_with fail
  refine HRG.out.mono ?_
  rintro e V1 hR1
  unfold RngS at hR1
  obtain ⟨pv, rfl, hrow, hfit, hk1⟩ := hR1
  obtain ⟨a, cap, rfl, -⟩ := row_slice hrow
  have hgp : ∀ p, a = some p → p.block < V1.heap.size := fun p e => by
    obtain ⟨q, hq1, hq2⟩ : ∃ q : Nat, a = some ⟨q, 0, none⟩ ∧ q < V1.heap.size := by
      rcases hrow.2 with ⟨e1, _⟩ | ⟨g, cap', cur, e1, hg, hb, _⟩
      · simp only [Value.slice.injEq] at e1
        rw [e1.1] at e
        cases e
      · simp only [Value.slice.injEq] at e1
        exact ⟨g, e1.1, (Array.getElem?_eq_some_iff.1 hb).1⟩
    rw [hq1] at e
    cases e
    exact hq2
  have H := Lib.hid (And.intro (row_IsPs hrow hfit) (And.intro hgp hk1))
  obtain ⟨n, hn⟩ : ∃ n, qs.length = n := ⟨_, rfl⟩
  have hnI : (n : Int) ≤ 1000 := by omega
  have HN := Lib.hid hn
  rw [hn]
  obtain ⟨B, hB⟩ : ∃ B, V1.heap.size = B := ⟨_, rfl⟩
  have HB := Lib.hid hB
  have HJ0 : Hid (EfJ B V1 (esOf (qs.take 0)) (.slice none 0 0) V1 ∧ GoodM (qs.take 0)) := Lib.hid ⟨⟨World.ownsRow_nil _ _ _ _, KeptIn.refl _ V1⟩, by rw [List.take_zero]; exact goodM_nil⟩
  clear hrow hfit hk1 hgp hn hB HRG hq
  go_wp2_with fail
  go_loopw [8, 10, 22] (fun v _ i wr => ∃ (j : Nat) (W : World) (v0 : Value), W = wr ∧ v0 = v ∧ j ≤ n ∧ i = .int .i64 (j : Int) ∧ Hid (EfJ B V1 (esOf (qs.take j)) v0 W ∧ GoodM (qs.take j))) (fun _ _ i _ => n - (intOf i).toNat)
  case atStart => exact ⟨0, _, _, rfl, rfl, Nat.zero_le _, rfl, HJ0⟩
  case round =>
    obtain ⟨j, W, v0, rfl, rfl, hj, rfl, HJ⟩ := hrel
    clear HJ0
    by_cases hlt : j < n
    · have d0 : (0 : Int) ≤ (j : Int) := by omega
      have d1 : (j : Int) < (n : Int) := by omega
      have hjl : j < qs.length := by rw [HN.out]; exact hlt
      have hBW0 : B ≤ W.heap.size := by have := HJ.out.1.2.size; rw [HB.out] at this; exact this
      have hps := psAt H.out.1 HJ.out.1.2 (fun p e => by have := H.out.2.1 p e; rw [HB.out] at this; exact this)
      obtain ⟨b, off, rfl, hb, hc⟩ := hps.cells (by omega)
      obtain ⟨c1, c2⟩ := hc j hjl
      have hkf := hps.fits qs[j] (List.getElem_mem hjl)
      rw [← keyAt_get hjl, ← valAt_get hjl] at hkf
      have HN2 : Hid ((¬ (keyAt qs j < 64 ∧ 1 ≤ valAt qs j ∧ valAt qs j ≤ 1023) → ¬ GoodM qs) ∧ KeptIn (· < w.heap.size) w (W.alloc (.cells #[.int .u64 (keyAt qs j : Int), .int .u64 (valAt qs j : Int)] 77))) := Lib.hid ⟨goodM_not hjl, by
        have k4 := HJ.out.1.2.alloc (fun k hk => by rw [HB.out]; exact hk) (.cells #[.int .u64 (keyAt qs j : Int), .int .u64 (valAt qs j : Int)] 77)
        rw [← HB.out] at k4
        exact H.out.2.2.go k4⟩
      have HT := Lib.hid (And.intro (esOf_take hjl) (goodM_take hjl HJ.out.2))
      have hlen : (esOf (qs.take j)).length = j := by rw [esOf_length, List.length_take]; omega
      obtain ⟨kk, hkk⟩ : ∃ kk, keyAt qs j = kk := ⟨_, rfl⟩
      obtain ⟨vv, hvv⟩ : ∃ vv, valAt qs j = vv := ⟨_, rfl⟩
      rw [hkk] at c1 HT hkf HN2
      rw [hvv] at c2 HT hkf HN2
      have k0 : (0 : Int) ≤ (kk : Int) := by omega
      have HPU := Lib.hid fun W => maIsPU (kk : Int) W
      have HNU := Lib.hid fun W => maIsNU (vv : Int) W
      have HLN := Lib.hid hlen
      clear hc hkk hvv hjl hps hb hlen
      by_cases hp : kk < 64
      · rw [decide_eq_true (show (0 : Int) ≤ (kk : Int) ∧ (kk : Int) < 64 by omega)] at HPU
        by_cases hv : 1 ≤ vv ∧ vv ≤ 1023
        · rw [decide_eq_true (show (1 : Int) ≤ (vv : Int) ∧ (vv : Int) ≤ 1023 by omega)] at HNU
          have k1 : (kk : Int) < 64 := by omega
          have k2 : (0 : Int) ≤ (vv : Int) := by omega
          have k3 : (vv : Int) ≤ 1023 := by omega
          have hw1 : wrap64 (kk : Int) = (kk : Int) := by unfold wrap64; omega
          have hw2 : wrap64 (vv : Int) = (vv : Int) := by unfold wrap64; omega
          have hrow := HJ.out.1.1
          rw [HLN.out] at hrow
          have HRW := Lib.hid hrow
          obtain ⟨hb1, hb2⟩ := ef_bnd j (by omega)
          have HG2 := Lib.hid (HT.out.2 hp hv.1 hv.2)
          have HNB := Lib.hid (vm2_new W (.cells #[.int .u64 (kk : Int), .int .u64 (vv : Int)] 77) (.cells #[.int .i64 (kk : Int), .int .i64 (vv : Int)] 74))
          clear hrow hkf HN2 hp hv
          go_wp2_with (first
            | (go_at_call 50; refine (HPU.out _).mono ?_; rintro e V ⟨rfl, rfl⟩)
            | (go_at_call 49; refine (HNU.out _).mono ?_; rintro e V ⟨rfl, rfl⟩)
            | (at_builtin; refine wpList_append_own _ rfl _ _ 64 rfl B 74 ii _ 2 16 Try.underlying64 hii hz0 hz1 hz2 rfl (by decide) _ _ _ rfl ((HRW.out.alloc _).alloc _) ⟨W.heap.size + 1, 0, none⟩ 1 1 [.int .i64 (kk : Int), .int .i64 (vv : Int)] rfl rfl (World.news_of_block (cs := #[.int .i64 (kk : Int), .int .i64 (vv : Int)]) (t := 74) (fr := (0, 0)) HNB.out) (by simp [Value.oneCell']) hb1 hb2 (by rw [World.size_alloc, World.size_alloc]; exact Nat.le_succ_of_le (Nat.le_succ_of_le hBW0)) ?_))
          intro v' w8 hown hgrow _
          have HJ2 : Hid (EfJ B V1 (esOf (qs.take (j + 1))) v' w8 ∧ GoodM (qs.take (j + 1))) := Lib.hid ⟨by
            rw [HT.out.1]
            exact (HJ.out.1.old hBW0 ((KeptIn.refl _ W).alloc (fun _ h => h) _)).next (u := ((kk : Int), (vv : Int))) HB.out (by rw [HLN.out]; exact hown) hgrow, HG2.out⟩
          clear hown hgrow HJ hb1 hb2 c1 c2 hBW0 HRW HNB HPU HNU
          go_wp2_with fail
          go_roundw
          case rel => exact ⟨j + 1, _, _, rfl, rfl, by omega, by go_num, HJ2⟩
          case measure => simp only [intOf]; omega
        · rw [decide_eq_false (show ¬ ((1 : Int) ≤ (vv : Int) ∧ (vv : Int) ≤ 1023) by omega)] at HNU
          have HBADE : ¬ (kk < 64 ∧ 1 ≤ vv ∧ vv ≤ 1023) := fun h => hv h.2
          have HE : Hid (MlS w qs (.returned (.tuple #[.slice none 0 0, .int .i64 3])) (W.alloc (.cells #[.int .u64 (kk : Int), .int .u64 (vv : Int)] 77))) := Lib.hid (.inr ⟨HN2.out.1 HBADE, rfl, HN2.out.2⟩)
          clear HJ HN2
          go_wp2_with (first
            | (go_at_call 50; refine (HPU.out _).mono ?_; rintro e V ⟨rfl, rfl⟩)
            | (go_at_call 49; refine (HNU.out _).mono ?_; rintro e V ⟨rfl, rfl⟩))
          go_ret2
          exact HE.out
      · rw [decide_eq_false (show ¬ ((0 : Int) ≤ (kk : Int) ∧ (kk : Int) < 64) by omega)] at HPU
        have HBADE : ¬ (kk < 64 ∧ 1 ≤ vv ∧ vv ≤ 1023) := fun h => hp h.1
        have HE : Hid (MlS w qs (.returned (.tuple #[.slice none 0 0, .int .i64 3])) (W.alloc (.cells #[.int .u64 (kk : Int), .int .u64 (vv : Int)] 77))) := Lib.hid (.inr ⟨HN2.out.1 HBADE, rfl, HN2.out.2⟩)
        clear HJ HN2
        go_wp2_with (first
          | (go_at_call 50; refine (HPU.out _).mono ?_; rintro e V ⟨rfl, rfl⟩)
          | (go_at_call 49; refine (HNU.out _).mono ?_; rintro e V ⟨rfl, rfl⟩))
        go_ret2
        exact HE.out
    · have d1 : ¬ (j : Int) < (n : Int) := by omega
      have HE : Hid (MlS w qs (.returned (.tuple #[v0, .int .i64 0])) W) := Lib.hid (by
        have h1 := HJ.out
        rw [List.take_of_length_le (by rw [HN.out]; omega)] at h1
        have hk9 := h1.1.2
        rw [← HB.out] at hk9
        have h2 := h1.1.1
        rw [esOf_length] at h2
        exact .inl ⟨h1.2, v0, rfl, row_weakenE h2 (by rw [← HB.out]; exact H.out.2.2.size), H.out.2.2.go hk9⟩)
      clear HJ
      go_wp2_with fail
      go_ret2
      exact HE.out

/-- Entries of a volume of so many places. -/
def okE (z : Int) (e : Int × Int) : Prop := (0 ≤ e.1 ∧ e.1 < 64) ∧ (1 ≤ e.2 ∧ e.2 ≤ 1023) ∧ e.1 < z
def goodE (es : Ents) (z : Int) : Prop := ∀ i, i < es.length → okE z (atE es i) ∧ (0 < i → (atE es (i - 1)).1 < (atE es i).1)


set_option maxHeartbeats 4000000 in
set_option maxRecDepth 100000 in
theorem maGood (a : Option Addr) (cap : Nat) (es : Ents) (z : Int) (r : Bool) (w : World) (h : IsEs w a es) (hl : es.length ≤ 1000) (hr : r = true ↔ goodE es z) :
    Calls Try.prog 26 #[.slice a es.length cap, .int .i64 z] w fun e w' => e = .returned (.bool r) ∧ KeptIn (· < w.heap.size) w w' := by
  obtain ⟨n, hn⟩ : ∃ n, es.length = n := ⟨_, rfl⟩
  have hnI : (n : Int) ≤ 1000 := by omega
  have H := Lib.hid h
  have HN := Lib.hid hn
  have HR := Lib.hid hr
  rw [hn]
  clear h hn hl hr
  go_enter Try.func26, Try.ntmps26
  go_wp2_with fail
  go_loopw [5, 6, 9] (fun _ _ i wr => ∃ (j : Nat) (W : World), W = wr ∧ j ≤ n ∧ i = .int .i64 (j : Int) ∧ Hid (KeptIn (· < w.heap.size) w W ∧ ∀ i, i < j → okE z (atE es i) ∧ (0 < i → (atE es (i - 1)).1 < (atE es i).1))) (fun _ _ i _ => n - (intOf i).toNat)
  case atStart => exact ⟨0, _, rfl, Nat.zero_le _, rfl, Lib.hid ⟨KeptIn.refl _ _, fun i hi => absurd hi (by omega)⟩⟩
  case round =>
    obtain ⟨j, W, rfl, hj, rfl, HJ⟩ := hrel
    by_cases hlt : j < n
    · have d0 : (0 : Int) ≤ (j : Int) := by omega
      have d1 : (j : Int) < (n : Int) := by omega
      have hjl : j < es.length := by rw [HN.out]; exact hlt
      have HJL := Lib.hid hjl
      obtain ⟨b, off, rfl, hb, hc⟩ := (H.out.old HJ.out.1).cells (by rw [HN.out]; omega)
      obtain ⟨c1, c2⟩ := hc j hjl
      have HCP := Lib.hid fun (t : Nat) (ht : t < es.length) => (World.cell?_of_block (w' := W.alloc (.cells #[.int .i64 (atE es j).1, .int .i64 (atE es j).2] 74)) (a := ⟨b, off + t * 2, none⟩) (Lib.alloc_old W _ b hb)).trans (hc t ht).1
      obtain ⟨⟨x, y⟩, hxy⟩ : ∃ p, atE es j = p := ⟨_, rfl⟩
      rw [hxy] at c1 c2 HCP
      simp only at c1 c2 HCP
      have HXY := Lib.hid hxy
      have HPU := Lib.hid fun W => maIsPI x W
      have HNU := Lib.hid fun W => maIsNI y W
      clear hc hb hxy hjl
      by_cases hp : 0 ≤ x ∧ x < 64
      · rw [decide_eq_true hp] at HPU
        by_cases hv : 1 ≤ y ∧ y ≤ 1023
        · rw [decide_eq_true hv] at HNU
          by_cases hz : z ≤ x
          · have z1 : z ≤ x := hz
            have HE : Hid (r = false) := Lib.hid (Bool.eq_false_iff.2 fun e => by
              have := (HR.out.1 e) j HJL.out
              rw [HXY.out] at this
              exact absurd this.1.2.2 (Int.not_lt.2 hz))
            have HK : Hid (KeptIn (· < w.heap.size) w (W.alloc (.cells #[.int .i64 x, .int .i64 y] 74))) := Lib.hid (HJ.out.1.alloc (fun _ h => h) _)
            clear HJ
            go_wp2_with (first
              | (go_at_call 43; refine (HPU.out _).mono ?_; rintro e V ⟨rfl, rfl⟩)
              | (go_at_call 47; refine (HNU.out _).mono ?_; rintro e V ⟨rfl, rfl⟩))
            go_ret
            exact ⟨by rw [HE.out]; rfl, HK.out⟩
          · have z1 : ¬ z ≤ x := hz
            have z2 : decide (z ≤ x) = false := decide_eq_false hz
            have HOK : Hid (okE z (x, y)) := Lib.hid ⟨hp, hv, Int.not_le.1 hz⟩
            have HKW : Hid (KeptIn (· < w.heap.size) w (W.alloc (.cells #[.int .i64 x, .int .i64 y] 74))) := Lib.hid (HJ.out.1.alloc (fun _ h => h) _)
            clear hp hv hz
            by_cases h0 : j = 0
            · have n1 : ¬ (0 : Int) < (j : Int) := by omega
              have n2 : decide ((0 : Int) < (j : Int)) = false := decide_eq_false n1
              have n3 : decide (0 < j) = false := decide_eq_false (by omega)
              have HJ2 : Hid (∀ q : Nat, KeptIn (· < w.heap.size) w ((W.alloc (.cells #[.int .i64 x, .int .i64 y] 74)).drewN q) ∧ ∀ i, i < j + 1 → okE z (atE es i) ∧ (0 < i → (atE es (i - 1)).1 < (atE es i).1)) := Lib.hid fun q => ⟨HKW.out.drewN q, fun i hi => by
                obtain rfl : i = j := by omega
                rw [HXY.out]
                exact ⟨HOK.out, fun h => absurd h (by omega)⟩⟩
              clear HJ HCP h0
              go_wp2_with (first
                | (go_at_call 43; refine (HPU.out _).mono ?_; rintro e V ⟨rfl, rfl⟩)
                | (go_at_call 47; refine (HNU.out _).mono ?_; rintro e V ⟨rfl, rfl⟩))
              have e0 : (W.alloc (.cells #[.int .i64 x, .int .i64 y] 74)).cell? ⟨W.heap.size, 0, none⟩ = some (.int .i64 x) := (cell_of_row _ _ 0 _ _ _ (heap_alloc_new W _)).trans rfl
              go_quiet (fail)
              go_wp2_with fail
              go_roundw
              case rel => exact ⟨j + 1, _, rfl, by omega, by go_num, Lib.hid (HJ2.out _)⟩
              case measure => simp only [intOf]; omega
            · obtain ⟨t, ht⟩ : ∃ t, j = t + 1 := ⟨j - 1, by omega⟩
              have hcp := HCP.out t (by rw [HN.out]; omega)
              obtain ⟨⟨x0, y0⟩, hx0⟩ : ∃ p, atE es t = p := ⟨_, rfl⟩
              rw [hx0] at hcp
              simp only at hcp
              have HX0 := Lib.hid (And.intro hx0 ht)
              have e3 : (W.alloc (.cells #[.int .i64 x, .int .i64 y] 74)).cell? ⟨b, off + (j - 1) * 2, none⟩ = some (.int .i64 x0) := by rw [show j - 1 = t by omega]; exact hcp
              have e4 : (W.alloc (.cells #[.int .i64 x, .int .i64 y] 74)).cell? ⟨b, off + ((j : Int) - 1).toNat * 2, none⟩ = some (.int .i64 x0) := by rw [show ((j : Int) - 1).toNat = t by omega]; exact hcp
              have j1 : (0 : Int) < (j : Int) := by omega
              have j4 : 0 < j := by omega
              have j2 : (0 : Int) ≤ (j : Int) - 1 := by omega
              have j3 : (j : Int) - 1 < (n : Int) := by omega
              clear HCP hx0 ht hcp h0
              by_cases hle : x ≤ x0
              · have g1 : x ≤ x0 := hle
                have HE : Hid (r = false) := Lib.hid (Bool.eq_false_iff.2 fun e => by
                  have := ((HR.out.1 e) j HJL.out).2 (by omega)
                  rw [HXY.out, show j - 1 = t by have := HX0.out.2; omega, HX0.out.1] at this
                  simp only at this
                  omega)
                clear HJ
                go_wp2_with (first
                  | (go_at_call 43; refine (HPU.out _).mono ?_; rintro e V ⟨rfl, rfl⟩)
                  | (go_at_call 47; refine (HNU.out _).mono ?_; rintro e V ⟨rfl, rfl⟩))
                have e0 : (W.alloc (.cells #[.int .i64 x, .int .i64 y] 74)).cell? ⟨W.heap.size, 0, none⟩ = some (.int .i64 x) := (cell_of_row _ _ 0 _ _ _ (heap_alloc_new W _)).trans rfl
                go_quiet (fail)
                go_wp2_with fail
                go_ret
                exact ⟨by rw [HE.out]; rfl, HKW.out.drewN _⟩
              · have g1 : ¬ x ≤ x0 := hle
                have g2 : decide (x ≤ x0) = false := decide_eq_false hle
                have HJ2 : Hid (∀ q : Nat, KeptIn (· < w.heap.size) w ((W.alloc (.cells #[.int .i64 x, .int .i64 y] 74)).drewN q) ∧ ∀ i, i < j + 1 → okE z (atE es i) ∧ (0 < i → (atE es (i - 1)).1 < (atE es i).1)) := Lib.hid fun q => ⟨HKW.out.drewN q, fun i hi => by
                  rcases Nat.lt_or_ge i j with h | h
                  · exact HJ.out.2 i h
                  · obtain rfl : i = j := by omega
                    rw [HXY.out]
                    refine ⟨HOK.out, fun _ => ?_⟩
                    rw [show i - 1 = t by have := HX0.out.2; omega, HX0.out.1]
                    exact Int.not_le.1 hle⟩
                clear HJ
                go_wp2_with (first
                  | (go_at_call 43; refine (HPU.out _).mono ?_; rintro e V ⟨rfl, rfl⟩)
                  | (go_at_call 47; refine (HNU.out _).mono ?_; rintro e V ⟨rfl, rfl⟩))
                have e0 : (W.alloc (.cells #[.int .i64 x, .int .i64 y] 74)).cell? ⟨W.heap.size, 0, none⟩ = some (.int .i64 x) := (cell_of_row _ _ 0 _ _ _ (heap_alloc_new W _)).trans rfl
                go_quiet (fail)
                go_wp2_with fail
                go_roundw
                case rel => exact ⟨j + 1, _, rfl, by omega, by go_num, Lib.hid (HJ2.out _)⟩
                case measure => simp only [intOf]; omega
        · rw [decide_eq_false hv] at HNU
          have HE : Hid (r = false) := Lib.hid (Bool.eq_false_iff.2 fun e => by
            have := (HR.out.1 e) j HJL.out
            rw [HXY.out] at this
            exact hv this.1.2.1)
          have HK : Hid (KeptIn (· < w.heap.size) w (W.alloc (.cells #[.int .i64 x, .int .i64 y] 74))) := Lib.hid (HJ.out.1.alloc (fun _ h => h) _)
          clear HJ
          go_wp2_with (first
            | (go_at_call 43; refine (HPU.out _).mono ?_; rintro e V ⟨rfl, rfl⟩)
            | (go_at_call 47; refine (HNU.out _).mono ?_; rintro e V ⟨rfl, rfl⟩))
          go_ret
          exact ⟨by rw [HE.out]; rfl, HK.out⟩
      · rw [decide_eq_false hp] at HPU
        have HE : Hid (r = false) := Lib.hid (Bool.eq_false_iff.2 fun e => by
          have := (HR.out.1 e) j HJL.out
          rw [HXY.out] at this
          exact hp this.1.1)
        have HK : Hid (KeptIn (· < w.heap.size) w (W.alloc (.cells #[.int .i64 x, .int .i64 y] 74))) := Lib.hid (HJ.out.1.alloc (fun _ h => h) _)
        clear HJ
        go_wp2_with (first
          | (go_at_call 43; refine (HPU.out _).mono ?_; rintro e V ⟨rfl, rfl⟩)
          | (go_at_call 47; refine (HNU.out _).mono ?_; rintro e V ⟨rfl, rfl⟩))
        go_ret
        exact ⟨by rw [HE.out]; rfl, HK.out⟩
    · have d1 : ¬ (j : Int) < (n : Int) := by omega
      have HE : Hid (r = true) := Lib.hid (HR.out.2 fun i hi => HJ.out.2 i (by rw [HN.out] at hi; omega))
      have HK := Lib.hid HJ.out.1
      clear HJ
      go_wp2_with fail
      go_ret
      exact ⟨by rw [HE.out]; rfl, HK.out⟩

end Go.Proofs.Ytbnpabpkaebojaa
