import Derived.Test.YtdbohcdjamhdjaaV2
/- The reference of layer 5 (tierceref05): Good, Pairs, Same. -/
set_option linter.unusedVariables false
namespace Go.Proofs.Ytdbohcdjamhdjaa
open Go.RowKit

set_option maxHeartbeats 2000000 in
set_option maxRecDepth 100000 in
theorem r5Good (lv : Int) (a : Option Addr) (cap : Nat) (ps : Pairs) (w : World) (h : IsPs w a ps) :
    Calls Try.prog 45 #[leafV lv a ps.length cap] w fun e w' => e = .returned (.bool (goodN lv ps)) ∧ KeptIn (· < w.heap.size) w w' := by
  obtain ⟨n, hn⟩ : ∃ n, ps.length = n := ⟨_, rfl⟩
  obtain ⟨g, hg⟩ : ∃ g, goodN lv ps = g := ⟨_, rfl⟩
  have hm : (n : Int) ≤ 9223372036854775807 := by have := h.len; unfold maxLen at this; omega
  unfold leafV
  rw [hg, hn]
  have HG : Hid ((countOk lv n && rises ps && (decide (lv = 0) || pagesOk ps)) = g) := Lib.hid (by rw [← hg, goodN, hn])
  have H := Lib.hid h; have HN := Lib.hid hn
  clear h hn hg
  by_cases h1 : lv < 0
  · have hf : g = false := by
      rw [← HG.out]
      rw [show countOk lv n = false by unfold countOk; simp; omega]
      rfl
    subst hf
    clear HG
    go_enter Try.func45, Try.ntmps45
    go_wp2_with fail
    go_ret
    exact ⟨rfl, (KeptIn.refl _ _).alloc (fun _ h => h) _⟩
  by_cases h2 : 7 < lv
  · have hf : g = false := by
      rw [← HG.out]
      rw [show countOk lv n = false by unfold countOk; simp; omega]
      rfl
    subst hf
    clear HG
    go_enter Try.func45, Try.ntmps45
    go_wp2_with fail
    go_ret
    exact ⟨rfl, (KeptIn.refl _ _).alloc (fun _ h => h) _⟩
  by_cases h3 : 15 < n
  · have hf : g = false := by
      rw [← HG.out]
      rw [show countOk lv n = false by unfold countOk; simp; omega]
      rfl
    subst hf
    clear HG
    go_enter Try.func45, Try.ntmps45
    go_wp2_with fail
    go_ret
    exact ⟨rfl, (KeptIn.refl _ _).alloc (fun _ h => h) _⟩
  by_cases h4 : n = 0 ∧ 0 < lv
  · obtain ⟨h4, h5⟩ := h4
    have hf : g = false := by
      rw [← HG.out]
      rw [show countOk lv n = false by unfold countOk; simp; omega]
      rfl
    subst hf
    clear HG
    go_enter Try.func45, Try.ntmps45
    go_wp2_with fail
    go_ret
    exact ⟨rfl, (KeptIn.refl _ _).alloc (fun _ h => h) _⟩
  have p1 : (0 : Int) ≤ lv := by omega
  have p2 : lv ≤ 7 := by omega
  have p3 : (n : Int) ≤ 15 := by omega
  by_cases h5 : lv = 0
  · have hl : lv ≤ 0 := by omega
    have h4' : lv = 0 ∨ 0 < n := .inl h5
    clear h4 h5
    go_enter Try.func45, Try.ntmps45
    go_wp2_with fail
    go_loopw [3] (fun c wr => ∃ (j : Nat) (W : World), W = wr ∧ j ≤ n ∧ c = .int .i64 j ∧ Hid ((KeptIn (· < w.heap.size) w W ∧ BoxL w.heap.size lv a n cap W) ∧ ∀ i, i < j → (0 < i → keyAt ps (i - 1) < keyAt ps i) ∧ (0 < lv → 1 ≤ valAt ps i ∧ valAt ps i ≤ 511))) (fun c _ => n - (RowKit.intOf c).toNat)
    case atStart => exact ⟨0, _, rfl, Nat.zero_le _, rfl, Lib.hid ⟨⟨(KeptIn.refl _ _).alloc (fun _ h => h) _, BoxL.new w lv a n cap⟩, fun i hi => absurd hi (by omega)⟩⟩
    case round =>
      obtain ⟨j, W, rfl, hj, rfl, HJ⟩ := hrel
      have d0 : (0 : Int) ≤ (j : Int) := by omega
      have c1 := HJ.out.1.2.c1
      have c0 := HJ.out.1.2.c0
      by_cases hlt : j < n
      · have d1 : (j : Int) < (n : Int) := by omega
        obtain ⟨b, off, rfl, hb, hc⟩ := (H.out.old HJ.out.1.1).cells (by rw [HN.out]; omega)
        have e1 := (hc j (by rw [HN.out]; omega)).1
        have e2 := (hc j (by rw [HN.out]; omega)).2
        obtain ⟨f1, f2⟩ := H.out.fits.at (i := j) (by rw [HN.out]; omega)
        obtain ⟨x, hx⟩ : ∃ x, keyAt ps j = x := ⟨_, rfl⟩
        obtain ⟨y, hy⟩ : ∃ y, valAt ps j = y := ⟨_, rfl⟩
        have HBAD : 0 < lv → (y < 1 ∨ 511 < y) → g = false := fun hl hv => by
          rw [← HG.out, decide_eq_false (by omega : ¬ lv = 0)]
          have : pagesOk ps = false := by
            rw [Bool.eq_false_iff]
            intro h1
            have := (pagesOk_iff ps).1 h1 j (by rw [HN.out]; exact hlt)
            omega
          rw [this]; simp
        rw [hx] at e1 f1
        rw [hy] at e2 f2
        by_cases hj0 : j = 0
        · subst hj0
          have HGO1 : (0 < lv → 1 ≤ y ∧ y ≤ 511) → (0 < 0 → keyAt ps (0 - 1) < keyAt ps 0) ∧ (0 < lv → 1 ≤ valAt ps 0 ∧ valAt ps 0 ≤ 511) := fun h => ⟨fun h => absurd h (by omega), fun h1 => by rw [hy]; exact h h1⟩
          have q0 : decide ((0 : Int) < ((0 : Nat) : Int)) = false := by decide
          clear hc hx hj f1 hb
          have q1 : decide (0 < lv) = false := decide_eq_false (by omega)
          have HGO := Lib.hid (HGO1 fun h => absurd h (by omega))
          clear HGO1 HBAD
          have HJ2 : Hid (∀ q, (KeptIn (· < w.heap.size) w (W.drewN q) ∧ BoxL w.heap.size lv (some ⟨b, off, none⟩) n cap (W.drewN q)) ∧ ∀ u, u < 0 + 1 → (0 < u → keyAt ps (u - 1) < keyAt ps u) ∧ (0 < lv → 1 ≤ valAt ps u ∧ valAt ps u ≤ 511)) := Lib.hid fun q => ⟨⟨HJ.out.1.1.drewN q, HJ.out.1.2.kept ((KeptIn.refl (fun _ => True) W).drewN q) trivial⟩, fun u hu => by
            rcases Nat.lt_or_ge u 0 with h | h
            · exact HJ.out.2 u h
            · have e : u = 0 := by omega
              rw [e]
              exact HGO.out⟩
          clear HJ HGO
          go_wp2_with fail
          go_quiet (fail)
          go_wp2_with fail
          go_roundw
          case rel => exact ⟨0 + 1, _, rfl, by omega, by go_num, Lib.hid (HJ2.out _)⟩
          case measure => simp [RowKit.intOf]; omega
        · obtain ⟨i, rfl⟩ : ∃ i, j = i + 1 := ⟨j - 1, by omega⟩
          have e3 := (hc i (by rw [HN.out]; omega)).1
          have f3 := (H.out.fits.at (i := i) (by rw [HN.out]; omega)).1
          obtain ⟨z, hz⟩ : ∃ z, keyAt ps i = z := ⟨_, rfl⟩
          rw [hz] at e3 f3
          have d2 : wrap64 (((i + 1 : Nat) : Int) - 1) = (i : Int) := by unfold wrap64; omega
          have d2' : IntKind.i64.wrap (((i + 1 : Nat) : Int) - 1) = (i : Int) := by rw [IntKind.wrap_i64]; omega
          have d3 : (0 : Int) ≤ (i : Int) := by omega
          have d4 : (i : Int) < (n : Int) := by omega
          have d5 : (0 : Int) < ((i + 1 : Nat) : Int) := by omega
          by_cases hxz : (x : Int) ≤ (z : Int)
          · have hf : g = false := by
              rw [← HG.out, rises_false i (by rw [HN.out]; omega) (by rw [hx, hz]; omega)]
              simp
            clear HBAD hc hx hy hz hj hj0 hb
            subst hf
            have HK := Lib.hid HJ.out.1.1
            clear HJ
            go_wp2_with fail
            go_quiet (fail)
            go_wp2_with fail
            go_ret
            exact ⟨rfl, HK.out.drewN _⟩
          have q2 : decide ((x : Int) ≤ (z : Int)) = false := decide_eq_false hxz
          have q2' : decide (x ≤ z) = false := decide_eq_false (by omega)
          have hxz' : (z : Int) < (x : Int) := by omega
          have HGO1 : (0 < lv → 1 ≤ y ∧ y ≤ 511) → (0 < i + 1 → keyAt ps (i + 1 - 1) < keyAt ps (i + 1)) ∧ (0 < lv → 1 ≤ valAt ps (i + 1) ∧ valAt ps (i + 1) ≤ 511) := fun h => ⟨fun _ => by rw [show i + 1 - 1 = i from rfl, hx, hz]; omega, fun h1 => by rw [hy]; exact h h1⟩
          clear hc hx hj hj0 hb hxz
          have q1 : decide (0 < lv) = false := decide_eq_false (by omega)
          have HGO := Lib.hid (HGO1 fun h => absurd h (by omega))
          clear HGO1 HBAD
          have HJ2 : Hid (∀ q, (KeptIn (· < w.heap.size) w (W.drewN q) ∧ BoxL w.heap.size lv (some ⟨b, off, none⟩) n cap (W.drewN q)) ∧ ∀ u, u < (i+1) + 1 → (0 < u → keyAt ps (u - 1) < keyAt ps u) ∧ (0 < lv → 1 ≤ valAt ps u ∧ valAt ps u ≤ 511)) := Lib.hid fun q => ⟨⟨HJ.out.1.1.drewN q, HJ.out.1.2.kept ((KeptIn.refl (fun _ => True) W).drewN q) trivial⟩, fun u hu => by
            rcases Nat.lt_or_ge u (i+1) with h | h
            · exact HJ.out.2 u h
            · have e : u = (i+1) := by omega
              rw [e]
              exact HGO.out⟩
          clear HJ HGO
          go_wp2_with fail
          go_quiet (fail)
          go_wp2_with fail
          go_roundw
          case rel => exact ⟨(i+1) + 1, _, rfl, by omega, by go_num, Lib.hid (HJ2.out _)⟩
          case measure => simp [RowKit.intOf]; omega
      · have d1 : (n : Int) ≤ (j : Int) := by omega
        have hf : g = true := by
          rw [← HG.out]
          have e1 : countOk lv n = true := by unfold countOk; simp; omega
          have e2 : rises ps = true := (rises_iff ps).2 fun i hi => by
            have := (HJ.out.2 (i + 1) (by rw [HN.out] at hi; omega)).1 (by omega)
            exact this
          have e3 : (decide (lv = 0) || pagesOk ps) = true := by
            by_cases h0 : lv = 0
            · rw [decide_eq_true h0]; rfl
            · have : pagesOk ps = true := (pagesOk_iff ps).2 fun i hi => (HJ.out.2 i (by rw [HN.out] at hi; omega)).2 (by omega)
              rw [this]; simp
          rw [e1, e2, e3]; rfl
        subst hf
        have HK := Lib.hid HJ.out.1.1
        clear HJ
        go_wp2_with fail
        go_ret
        exact ⟨rfl, HK.out⟩
  · have hl : 0 < lv := by omega
    have hn0 : 0 < n := by omega
    have h4' : lv = 0 ∨ 0 < n := .inr hn0
    have hn1 : ((n : Int) == 0) = false := by rw [beq_eq_false_iff_ne]; omega
    clear h4 h5
    go_enter Try.func45, Try.ntmps45
    go_wp2_with fail
    go_loopw [3] (fun c wr => ∃ (j : Nat) (W : World), W = wr ∧ j ≤ n ∧ c = .int .i64 j ∧ Hid ((KeptIn (· < w.heap.size) w W ∧ BoxL w.heap.size lv a n cap W) ∧ ∀ i, i < j → (0 < i → keyAt ps (i - 1) < keyAt ps i) ∧ (0 < lv → 1 ≤ valAt ps i ∧ valAt ps i ≤ 511))) (fun c _ => n - (RowKit.intOf c).toNat)
    case atStart => exact ⟨0, _, rfl, Nat.zero_le _, rfl, Lib.hid ⟨⟨(KeptIn.refl _ _).alloc (fun _ h => h) _, BoxL.new w lv a n cap⟩, fun i hi => absurd hi (by omega)⟩⟩
    case round =>
      obtain ⟨j, W, rfl, hj, rfl, HJ⟩ := hrel
      have d0 : (0 : Int) ≤ (j : Int) := by omega
      have c1 := HJ.out.1.2.c1
      have c0 := HJ.out.1.2.c0
      by_cases hlt : j < n
      · have d1 : (j : Int) < (n : Int) := by omega
        obtain ⟨b, off, rfl, hb, hc⟩ := (H.out.old HJ.out.1.1).cells (by rw [HN.out]; omega)
        have e1 := (hc j (by rw [HN.out]; omega)).1
        have e2 := (hc j (by rw [HN.out]; omega)).2
        obtain ⟨f1, f2⟩ := H.out.fits.at (i := j) (by rw [HN.out]; omega)
        obtain ⟨x, hx⟩ : ∃ x, keyAt ps j = x := ⟨_, rfl⟩
        obtain ⟨y, hy⟩ : ∃ y, valAt ps j = y := ⟨_, rfl⟩
        have HBAD : 0 < lv → (y < 1 ∨ 511 < y) → g = false := fun hl hv => by
          rw [← HG.out, decide_eq_false (by omega : ¬ lv = 0)]
          have : pagesOk ps = false := by
            rw [Bool.eq_false_iff]
            intro h1
            have := (pagesOk_iff ps).1 h1 j (by rw [HN.out]; exact hlt)
            omega
          rw [this]; simp
        rw [hx] at e1 f1
        rw [hy] at e2 f2
        by_cases hj0 : j = 0
        · subst hj0
          have HGO1 : (0 < lv → 1 ≤ y ∧ y ≤ 511) → (0 < 0 → keyAt ps (0 - 1) < keyAt ps 0) ∧ (0 < lv → 1 ≤ valAt ps 0 ∧ valAt ps 0 ≤ 511) := fun h => ⟨fun h => absurd h (by omega), fun h1 => by rw [hy]; exact h h1⟩
          have q0 : decide ((0 : Int) < ((0 : Nat) : Int)) = false := by decide
          clear hc hx hj f1 hb
          by_cases hv1 : (y : Int) < 1
          · have hf : g = false := HBAD hl (by omega)
            clear HGO1 HBAD
            subst hf
            have HK := Lib.hid HJ.out.1.1
            clear HJ
            go_wp2_with fail
            go_quiet (fail)
            go_wp2_with fail
            go_ret
            exact ⟨rfl, HK.out.drewN _⟩
          have q3 : decide ((y : Int) < 1) = false := decide_eq_false hv1
          have q3' : decide (y < 1) = false := decide_eq_false (by omega)
          have hv1' : (1 : Int) ≤ (y : Int) := by omega
          clear hv1
          by_cases hv2 : (511 : Int) < (y : Int)
          · have hf : g = false := HBAD hl (by omega)
            clear HGO1 HBAD
            subst hf
            have HK := Lib.hid HJ.out.1.1
            clear HJ
            go_wp2_with fail
            go_quiet (fail)
            go_wp2_with fail
            go_ret
            exact ⟨rfl, HK.out.drewN _⟩
          have q4 : decide ((511 : Int) < (y : Int)) = false := decide_eq_false hv2
          have q4' : decide (511 < y) = false := decide_eq_false (by omega)
          have hv2' : (y : Int) ≤ 511 := by omega
          have HGO := Lib.hid (HGO1 fun _ => ⟨by omega, by omega⟩)
          clear HGO1 HBAD hv2
          have HJ2 : Hid (∀ q, (KeptIn (· < w.heap.size) w (W.drewN q) ∧ BoxL w.heap.size lv (some ⟨b, off, none⟩) n cap (W.drewN q)) ∧ ∀ u, u < 0 + 1 → (0 < u → keyAt ps (u - 1) < keyAt ps u) ∧ (0 < lv → 1 ≤ valAt ps u ∧ valAt ps u ≤ 511)) := Lib.hid fun q => ⟨⟨HJ.out.1.1.drewN q, HJ.out.1.2.kept ((KeptIn.refl (fun _ => True) W).drewN q) trivial⟩, fun u hu => by
            rcases Nat.lt_or_ge u 0 with h | h
            · exact HJ.out.2 u h
            · have e : u = 0 := by omega
              rw [e]
              exact HGO.out⟩
          clear HJ HGO
          go_wp2_with fail
          go_quiet (fail)
          go_wp2_with fail
          go_roundw
          case rel => exact ⟨0 + 1, _, rfl, by omega, by go_num, Lib.hid (HJ2.out _)⟩
          case measure => simp [RowKit.intOf]; omega
        · obtain ⟨i, rfl⟩ : ∃ i, j = i + 1 := ⟨j - 1, by omega⟩
          have e3 := (hc i (by rw [HN.out]; omega)).1
          have f3 := (H.out.fits.at (i := i) (by rw [HN.out]; omega)).1
          obtain ⟨z, hz⟩ : ∃ z, keyAt ps i = z := ⟨_, rfl⟩
          rw [hz] at e3 f3
          have d2 : wrap64 (((i + 1 : Nat) : Int) - 1) = (i : Int) := by unfold wrap64; omega
          have d2' : IntKind.i64.wrap (((i + 1 : Nat) : Int) - 1) = (i : Int) := by rw [IntKind.wrap_i64]; omega
          have d3 : (0 : Int) ≤ (i : Int) := by omega
          have d4 : (i : Int) < (n : Int) := by omega
          have d5 : (0 : Int) < ((i + 1 : Nat) : Int) := by omega
          by_cases hxz : (x : Int) ≤ (z : Int)
          · have hf : g = false := by
              rw [← HG.out, rises_false i (by rw [HN.out]; omega) (by rw [hx, hz]; omega)]
              simp
            clear HBAD hc hx hy hz hj hj0 hb
            subst hf
            have HK := Lib.hid HJ.out.1.1
            clear HJ
            go_wp2_with fail
            go_quiet (fail)
            go_wp2_with fail
            go_ret
            exact ⟨rfl, HK.out.drewN _⟩
          have q2 : decide ((x : Int) ≤ (z : Int)) = false := decide_eq_false hxz
          have q2' : decide (x ≤ z) = false := decide_eq_false (by omega)
          have hxz' : (z : Int) < (x : Int) := by omega
          have HGO1 : (0 < lv → 1 ≤ y ∧ y ≤ 511) → (0 < i + 1 → keyAt ps (i + 1 - 1) < keyAt ps (i + 1)) ∧ (0 < lv → 1 ≤ valAt ps (i + 1) ∧ valAt ps (i + 1) ≤ 511) := fun h => ⟨fun _ => by rw [show i + 1 - 1 = i from rfl, hx, hz]; omega, fun h1 => by rw [hy]; exact h h1⟩
          clear hc hx hj hj0 hb hxz
          by_cases hv1 : (y : Int) < 1
          · have hf : g = false := HBAD hl (by omega)
            clear HGO1 HBAD
            subst hf
            have HK := Lib.hid HJ.out.1.1
            clear HJ
            go_wp2_with fail
            go_quiet (fail)
            go_wp2_with fail
            go_ret
            exact ⟨rfl, HK.out.drewN _⟩
          have q3 : decide ((y : Int) < 1) = false := decide_eq_false hv1
          have q3' : decide (y < 1) = false := decide_eq_false (by omega)
          have hv1' : (1 : Int) ≤ (y : Int) := by omega
          clear hv1
          by_cases hv2 : (511 : Int) < (y : Int)
          · have hf : g = false := HBAD hl (by omega)
            clear HGO1 HBAD
            subst hf
            have HK := Lib.hid HJ.out.1.1
            clear HJ
            go_wp2_with fail
            go_quiet (fail)
            go_wp2_with fail
            go_ret
            exact ⟨rfl, HK.out.drewN _⟩
          have q4 : decide ((511 : Int) < (y : Int)) = false := decide_eq_false hv2
          have q4' : decide (511 < y) = false := decide_eq_false (by omega)
          have hv2' : (y : Int) ≤ 511 := by omega
          have HGO := Lib.hid (HGO1 fun _ => ⟨by omega, by omega⟩)
          clear HGO1 HBAD hv2
          have HJ2 : Hid (∀ q, (KeptIn (· < w.heap.size) w (W.drewN q) ∧ BoxL w.heap.size lv (some ⟨b, off, none⟩) n cap (W.drewN q)) ∧ ∀ u, u < (i+1) + 1 → (0 < u → keyAt ps (u - 1) < keyAt ps u) ∧ (0 < lv → 1 ≤ valAt ps u ∧ valAt ps u ≤ 511)) := Lib.hid fun q => ⟨⟨HJ.out.1.1.drewN q, HJ.out.1.2.kept ((KeptIn.refl (fun _ => True) W).drewN q) trivial⟩, fun u hu => by
            rcases Nat.lt_or_ge u (i+1) with h | h
            · exact HJ.out.2 u h
            · have e : u = (i+1) := by omega
              rw [e]
              exact HGO.out⟩
          clear HJ HGO
          go_wp2_with fail
          go_quiet (fail)
          go_wp2_with fail
          go_roundw
          case rel => exact ⟨(i+1) + 1, _, rfl, by omega, by go_num, Lib.hid (HJ2.out _)⟩
          case measure => simp [RowKit.intOf]; omega
      · have d1 : (n : Int) ≤ (j : Int) := by omega
        have hf : g = true := by
          rw [← HG.out]
          have e1 : countOk lv n = true := by unfold countOk; simp; omega
          have e2 : rises ps = true := (rises_iff ps).2 fun i hi => by
            have := (HJ.out.2 (i + 1) (by rw [HN.out] at hi; omega)).1 (by omega)
            exact this
          have e3 : (decide (lv = 0) || pagesOk ps) = true := by
            by_cases h0 : lv = 0
            · rw [decide_eq_true h0]; rfl
            · have : pagesOk ps = true := (pagesOk_iff ps).2 fun i hi => (HJ.out.2 i (by rw [HN.out] at hi; omega)).2 (by omega)
              rw [this]; simp
          rw [e1, e2, e3]; rfl
        subst hf
        have HK := Lib.hid HJ.out.1.1
        clear HJ
        go_wp2_with fail
        go_ret
        exact ⟨rfl, HK.out⟩


end Go.Proofs.Ytdbohcdjamhdjaa
