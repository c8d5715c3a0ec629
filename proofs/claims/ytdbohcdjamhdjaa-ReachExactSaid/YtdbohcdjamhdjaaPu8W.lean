import Derived.Test.YtdbohcdjamhdjaaCm8W
/- Package tree's growsTooHigh, Put. -/
set_option linter.unusedVariables false
namespace Go.Proofs.Ytdbohcdjamhdjaa
open Go.RowKit

theorem trHigh (a : Option Addr) (n cap : Nat) (h : n < 8) (w : World) : Calls Try.prog 37 #[.slice a n cap] w fun e w' => e = .returned (.bool false) ∧ w' = w := by
  have h1 : (n : Int) < 8 := by omega
  have h2 : ((n : Int) < 8) ↔ True := by simp [h1]
  go_enter Try.func37, Try.ntmps37
  go_wp2_with fail
  go_ret
  exact ⟨rfl, rfl⟩

theorem way_ok {N : List Nd} {k : Nat} : ∀ {ws : List Stp} {root : Bool} {lv : Int} {lo hi p : Nat}, WayG N k ws root lv lo hi p → (∀ t ∈ ws, StOk t ∧ t.lv ≤ 7) ∧ ws ≠ [] := by
  intro ws
  induction ws with
  | nil => intro root lv lo hi p h; exact h.elim
  | cons t r ih =>
    intro root lv lo hi p h
    cases r with
    | nil =>
      obtain ⟨h1, h2, h3, h4, h5⟩ := h
      obtain ⟨g1, g2⟩ := fit_good h3
      obtain ⟨t1, t2, t3⟩ := toOf_le ((rises_srt _).1 (good_rises g1)) k
      obtain ⟨_, _, g3⟩ := good_parts g1
      refine ⟨fun u hu => ?_, by simp⟩
      rw [List.mem_singleton.1 hu]
      exact ⟨⟨by omega, by omega, g3⟩, by omega⟩
    | cons u r =>
      obtain ⟨h1, h2, h3, h4, h5, h6⟩ := h
      obtain ⟨g1, g2⟩ := fit_good h3
      obtain ⟨_, g4, g3⟩ := good_parts g1
      have := kidOf_lt t.ps k g2
      refine ⟨fun y hy => ?_, by simp⟩
      rcases List.mem_cons.1 hy with rfl | hy
      · exact ⟨⟨by omega, by omega, g3⟩, by omega⟩
      · exact (ih h6).1 y hy
theorem desc_ok {N : List Nd} {k root : Nat} {ws : List Stp} (h : DescW N k root ws) : (∀ t ∈ ws, StOk t ∧ t.lv ≤ 7) ∧ ws ≠ [] := by
  rcases h with ⟨_, rfl⟩ | h
  · refine ⟨fun t ht => ?_, by simp⟩
    rw [List.mem_singleton.1 ht]
    exact ⟨⟨Nat.le_refl _, Nat.le_refl _, Nat.zero_le _⟩, Nat.zero_le _⟩
  · exact way_ok h
theorem lvOf_le {ws : List Stp} (h : (∀ t ∈ ws, StOk t ∧ t.lv ≤ 7) ∧ ws ≠ []) : lvOf ws ≤ 7 := by
  cases ws with
  | nil => exact absurd rfl h.2
  | cons t r => exact (h.1 t (by simp)).2

/-- descend, of the tree without pairs too. -/
theorem trDesc {w : World} {s room : Nat} {N : List Nd} {D : Nat → Prop} (h : IsSh w s room N D) (k root : Nat) (hk : k < 18446744073709551616) (ws : List Stp) (hw : DescW N k root ws) (hlen : ws.length ≤ 1000) :
    Calls Try.prog 36 #[pgV s, .int .i64 (root : Int), .int .u64 (k : Int)] w (fun e w' => ∃ g cap, e = .returned (.tuple #[.slice (some ⟨g, 0, none⟩) ws.length cap, .int .i64 0]) ∧ WayR w' w.heap.size (.slice (some ⟨g, 0, none⟩) ws.length cap) ws ∧ w.heap.size ≤ g ∧ KeptIn (· < w.heap.size) w w') := by
  have hpos : 0 < ws.length := by
    have := (desc_ok hw).2
    cases ws with
    | nil => exact absurd rfl this
    | cons t r => simp
  have fin : ∀ e w', DescS w ws e w' → ∃ g cap, e = .returned (.tuple #[.slice (some ⟨g, 0, none⟩) ws.length cap, .int .i64 0]) ∧ WayR w' w.heap.size (.slice (some ⟨g, 0, none⟩) ws.length cap) ws ∧ w.heap.size ≤ g ∧ KeptIn (· < w.heap.size) w w' := by
    rintro e w' ⟨v, rfl, ⟨xs, h1, h2⟩, h3⟩
    obtain ⟨g, cap, rfl, hg, _⟩ := h1.form hpos
    exact ⟨g, cap, rfl, ⟨xs, h1, h2⟩, hg, h3⟩
  rcases hw with ⟨rfl, rfl⟩ | hw
  · exact (trDescendNil s k w).mono fin
  · exact (trDescend h k hk ws root hw hlen).mono fin

theorem WayR.old {W W' : World} {B0 : Nat} {v : Value} {ws : List Stp} (h : WayR W B0 v ws) (hk : KeptIn (· < W.heap.size) W W') : WayR W' B0 v ws := by
  obtain ⟨xs, h1, h2⟩ := h
  exact ⟨xs, rowS_block h1 fun g e => hk.block g (rowS_lt h1 g e).2, h2.old hk⟩

theorem way_split {ws : List Stp} (h : ws ≠ []) : ∃ init z, ws = init ++ [z] := ⟨ws.dropLast, ws.getLast h, (List.dropLast_concat_getLast h).symm⟩

theorem ps_new (V : World) (k v : Nat) (hk : k < 18446744073709551616) (hv : v < 18446744073709551616) : IsPs (V.alloc (.cells #[.int .u64 (k : Int), .int .u64 (v : Int)] 82)) (some ⟨V.heap.size, 0, none⟩) [(k, v)] := by
  have hb := heap_alloc_new V (.cells #[.int .u64 (k : Int), .int .u64 (v : Int)] 82)
  refine ⟨by simp [maxLen], fun p hp => by rw [List.mem_singleton.1 hp]; exact ⟨hk, hv⟩, fun _ => ⟨V.heap.size, 0, rfl, by simp, fun i hi => ?_⟩⟩
  obtain rfl : i = 0 := by simpa using hi
  exact ⟨(cell_of_row _ _ 0 _ _ _ hb).trans rfl, (cell_of_row _ _ 1 _ _ _ hb).trans rfl⟩

theorem part_some_pos {c lv : Nat} {l : Pairs} {N : List Nd} {ls : Pairs} {N1 : List Nd} (h : partM c lv l N = (some ls, N1)) (h0 : 0 < l.length) : 0 < ls.length ∧ ∀ i, i < ls.length → valAt ls i ≤ c := by
  unfold partM at h
  obtain ⟨m, hm⟩ : ∃ m, (if 15 < l.length then 8 else 15) = m := ⟨_, rfl⟩
  have hm8 : m = 8 ∨ m = 15 := by rw [← hm]; split <;> omega
  rw [hm] at h
  obtain ⟨h1, h2, h3⟩ := nodesM_some h
  refine ⟨by rw [h1, leadsOf_length]; unfold partsOf; rcases hm8 with rfl | rfl <;> omega, fun i hi => ?_⟩
  rw [valAt_get hi]
  simp only [h1, leadsOf, List.getElem_map, List.getElem_range]
  rw [h1, leadsOf_length] at hi
  omega

theorem withM_pos {s : Stp} {ls : Pairs} (h : 0 < ls.length) : 0 < (withM s ls).length := by
  unfold withM; simp only [List.length_append]; omega

/-- What climbs, in numbers. -/
theorem climb_bounds {c : Nat} (hc : c ≤ 511) {xs : Pairs} (hx : xs.length ≤ 1) (hxf : Fits xs) : ∀ {ws : List Stp} {N : List Nd} {l : Pairs} {N1 : List Nd}, (∀ t ∈ ws, StOk t ∧ Fits t.ps) → ws ≠ [] → N.length ≤ c → climbM c ws xs N = (some l, N1) → l.length ≤ 100 ∧ Fits l ∧ N1.length ≤ c ∧ (0 < xs.length → 0 < l.length) := by
  intro ws
  induction ws with
  | nil => intro N l N1 _ h; exact absurd rfl h
  | cons s r ih =>
    intro N l N1 hok _ hN e
    cases r with
    | nil =>
      obtain ⟨e1, e2⟩ := Prod.mk.inj e
      obtain rfl := Option.some.inj e1
      obtain ⟨h1, h2⟩ := hok s (by simp)
      have := withM_length h1 xs
      exact ⟨by omega, withM_fits h2 hxf, by rw [← e2]; exact hN, withM_pos⟩
    | cons t r =>
      unfold climbM at e
      cases hcl : climbM c (t :: r) xs N with
      | mk o N2 =>
        rw [hcl] at e
        cases o with
        | none => cases (Prod.mk.inj e).1
        | some l1 =>
          obtain ⟨g1, g2, g3, g4⟩ := ih (fun u hu => hok u (List.mem_cons_of_mem _ hu)) (by simp) hN hcl
          dsimp only at e
          cases hp : partM c t.lv l1 N2 with
          | mk o2 N3 =>
            rw [hp] at e
            cases o2 with
            | none => cases (Prod.mk.inj e).1
            | some ls =>
              obtain ⟨e1, e2⟩ := Prod.mk.inj e
              obtain rfl := Option.some.inj e1
              obtain ⟨k1, k2, k3⟩ := part_len hp g1 g3 hc g2
              obtain ⟨h1, h2⟩ := hok s (by simp)
              have := withM_length h1 ls
              exact ⟨by omega, withM_fits h2 k2, by rw [← e2]; exact k3, fun hx => withM_pos (part_some_pos hp (g4 hx)).1⟩

theorem wayR_fits {W : World} {B0 : Nat} {v : Value} {ws : List Stp} (h : WayR W B0 v ws) : ∀ t ∈ ws, Fits t.ps := by
  obtain ⟨xs, _, h2⟩ := h
  obtain ⟨A, C, hAC⟩ := way_at h2
  intro t ht
  obtain ⟨i, hi, rfl⟩ := List.getElem_of_mem ht
  exact (hAC i hi).2.2.2.2.1.fits

theorem pu_lv (lv : Nat) (h : lv ≤ 7) : wrap64 ((lv : Int) + 1) = ((lv + 1 : Nat) : Int) := by unfold wrap64; omega
theorem pu_gt (n : Nat) (h : 1 < n) : (1 : Int) < (n : Int) ∧ ¬ ((n : Int) ≤ 1) := by omega
theorem pu_le (n : Nat) (h : ¬ 1 < n) : ¬ ((1 : Int) < (n : Int)) ∧ (n : Int) ≤ 1 := by omega


set_option maxRecDepth 100000 in
set_option maxHeartbeats 2000000 in
theorem trPut {w : World} {s room : Nat} {N : List Nd} {D : Nat → Prop} (h : IsSh w s room N D) (root k v : Nat) (hk : k < 18446744073709551616) (hv : v < 18446744073709551616) (ws : List Stp) (hw : DescW N k root ws) (hl7 : ws.length ≤ 7) (hNc : N.length ≤ min room 511) :
    Calls Try.prog 30 #[pgV s, .int .i64 (root : Int), .int .u64 (k : Int), .int .u64 (v : Int)] w (PageS w s room D (putM (min room 511) ws (k, v) N)) := by
  have hdok := desc_ok hw
  have hlv := lvOf_le hdok
  obtain ⟨init, z, hsp⟩ := way_split hdok.2
  have HD := Lib.hid (trDesc h k root hk ws hw (by omega))
  obtain ⟨n, hn⟩ : ∃ n, ws.length = n := ⟨_, rfl⟩
  obtain ⟨lv, hlve⟩ : ∃ lv, lvOf ws = lv := ⟨_, rfl⟩
  have hsw := h.lt s h.ds
  have hc511 : min room 511 ≤ 511 := by omega
  have HDC : Hid (∀ V g cap, WayR V w.heap.size (.slice (some ⟨g, 0, none⟩) n cap) ws → w.heap.size ≤ g → KeptIn (· < w.heap.size) w V → Calls Try.prog 38 #[pgV s, .slice (some ⟨g, 0, none⟩) n cap, .slice (some ⟨V.heap.size, 0, none⟩) 1 1] (V.alloc (.cells #[.int .u64 (k : Int), .int .u64 (v : Int)] 82)) (BodyS (V.alloc (.cells #[.int .u64 (k : Int), .int .u64 (v : Int)] 82)) s room D lv (climbM (min room 511) ws [(k, v)] N))) := Lib.hid fun V g cap hway hg hkV => by
    have hkA : KeptIn (· < V.heap.size) V (V.alloc (.cells #[.int .u64 (k : Int), .int .u64 (v : Int)] 82)) := (KeptIn.refl _ V).alloc (fun _ h => h) _
    have := trClimb ((h.old hkV).old hkA) hsw g cap ws init z hsp (by rw [hn]; exact hway.old hkA) hg (by omega) (fun t ht => (hdok.1 t ht).1) (some ⟨V.heap.size, 0, none⟩) 1 [(k, v)] (ps_new V k v hk hv) (by simp) (fun e => by simp at e) hNc
    rw [hn, hlve] at this
    exact this
  have hhigh : Hid (∀ g cap V, Calls Try.prog 37 #[.slice (some ⟨g, 0, none⟩) n cap] V fun e w' => e = .returned (.bool false) ∧ w' = V) := Lib.hid fun g cap V => trHigh _ n cap (by omega) V
  have hxf : Fits [(k, v)] := fun p hp => by rw [List.mem_singleton.1 hp]; exact ⟨hk, hv⟩
  have hlvw := pu_lv lv (by omega)
  rw [hn] at HD
  obtain ⟨R, hR⟩ : ∃ R, putM (min room 511) ws (k, v) N = R := ⟨_, rfl⟩
  rw [hR]
  unfold putM at hR
  rw [hlve] at hR
  cases hcl : climbM (min room 511) ws [(k, v)] N with
  | mk o1 N1 =>
    rw [hcl] at HDC hR
    cases o1 with
    | none =>
      dsimp only at hR
      subst hR
      have HC0 := Lib.hid fun V g cap hway hg hkV => Calls.mono (HDC.out V g cap hway hg hkV) (R' := fun e w' => e = .returned (.tuple #[.agg #[.int .i64 0, .slice none 0 0], .int .i64 6]) ∧ AddTo w s room D N1 w') fun e w' ⟨h1, h2⟩ => ⟨h1, h2.from (hkV.go ((KeptIn.refl _ V).alloc (fun _ h => h) _))⟩
      unfold pgV at *
      clear hdok hsp hw hl7 hNc hlv hcl hxf h hc511 HDC
      go_enter Try.func30, Try.ntmps30
      go_wp2_with (go_at_call 36; refine HD.out.mono ?_; rintro e V ⟨g, cap, rfl, hway, hg, hkV⟩; have HC := Lib.hid (HC0.out V g cap hway hg hkV); clear hway hg hkV HC0)
      go_wp2_with (go_at_call 37; refine (hhigh.out g cap _).mono ?_; rintro e V' ⟨rfl, rfl⟩)
      go_wp2_with (go_at_call 38; refine HC.out.mono ?_; rintro e V2 ⟨rfl, hA⟩; have HA := Lib.hid hA; clear hA HC)
      go_ret2
      exact ⟨⟨0, 6, rfl, rfl, rfl⟩, HA.out.old ((KeptIn.refl _ _).alloc (fun _ h => h) _)⟩
    | some l =>
      dsimp only at hR
      have HRR := Lib.hid hR
      clear hR
      obtain ⟨m, hm⟩ : ∃ m, l.length = m := ⟨_, rfl⟩
      have HC0 := Lib.hid fun V g cap (hway : WayR V w.heap.size (.slice (some ⟨g, 0, none⟩) n cap) ws) hg (hkV : KeptIn (· < w.heap.size) w V) => Calls.mono (HDC.out V g cap hway hg hkV) (R' := fun e w' => ∃ a cap, e = .returned (.tuple #[.agg #[.int .i64 (lv : Int), .slice a m cap], .int .i64 0]) ∧ w'.ownsRow w.heap.size 82 2 (.slice a m cap) m (cellsP l) ∧ Fits l ∧ AddTo w s room D N1 w' ∧ ∀ t ∈ ws, Fits t.ps) fun e w' ⟨⟨a, cap, h1, h2, h3⟩, h4⟩ => by
        have hkA := hkV.go ((KeptIn.refl _ V).alloc (fun _ h => h) (.cells #[.int .u64 (k : Int), .int .u64 (v : Int)] 82))
        exact ⟨a, cap, by rw [← hm]; exact h1, by rw [← hm]; exact row_weaken h2 hkA.size, h3, h4.from hkA, wayR_fits hway⟩
      have HB := Lib.hid fun (hf : ∀ t ∈ ws, Fits t.ps) => climb_bounds hc511 (xs := [(k, v)]) (by simp) hxf (fun t ht => ⟨(hdok.1 t ht).1, hf t ht⟩) hdok.2 hNc hcl
      have HLV := Lib.hid (And.intro hlvw (And.intro hlv (And.intro hlve (And.intro hsw hm))))
      unfold pgV at HD HC0 ⊢
      clear hdok hsp hw hl7 hNc hlv hcl hxf h hc511 HDC hsw hlvw hm hlve
      go_enter Try.func30, Try.ntmps30
      go_wp2_with (go_at_call 36; refine HD.out.mono ?_; rintro e V ⟨g, cap, rfl, hway, hg, hkV⟩; have HC := Lib.hid (HC0.out V g cap hway hg hkV); clear hway hg hkV HC0)
      go_wp2_with (go_at_call 37; refine (hhigh.out g cap _).mono ?_; rintro e V' ⟨rfl, rfl⟩)
      go_wp2_with (go_at_call 38; refine HC.out.mono ?_; rintro e V2 ⟨a9, c9, rfl, hrow, hfl, hA, hfs⟩; have HR := Lib.hid (And.intro hrow (And.intro hfl (And.intro hA hfs))); clear hrow hfl hA hfs HC)
      obtain ⟨b1, b2, b3, b4⟩ := HB.out HR.out.2.2.2
      obtain ⟨V3, hV3⟩ : ∃ V3, V2.alloc (.cells #[.int .i64 (lv : Int), .slice a9 m c9] 27) = V3 := ⟨_, rfl⟩
      obtain ⟨y, hy⟩ : ∃ y, V2.heap.size = y := ⟨_, rfl⟩
      have hk3 : KeptIn (· < V2.heap.size) V2 V3 := by rw [← hV3]; exact (KeptIn.refl _ V2).alloc (fun _ h => h) _
      have hb3 : BoxL y (lv : Int) a9 m c9 V3 := by rw [← hV3, ← hy]; exact BoxL.new V2 _ _ _ _
      obtain ⟨D2, hsh, hD2, hkw⟩ := HR.out.2.2.1.old hk3
      have hrow3 : V3.ownsRow w.heap.size 82 2 (.slice a9 m c9) m (cellsP l) := rowS_block HR.out.1 fun g e => hk3.block g (rowS_lt HR.out.1 g e).2
      have hrow3' := hrow3
      rw [← HLV.out.2.2.2.2] at hrow3'
      have CP := trParted hsh lv c9 a9 l (row_listOk hrow3' HR.out.2.1 HLV.out.2.2.2.1) (by omega) b3
      rw [HLV.out.2.2.2.2] at CP
      have d0 := hb3.c0
      have d1 := hb3.c1
      cases hM : partM (min room 511) lv l N1 with
      | mk o2 N2 =>
        have hR := HRR.out
        rw [hM] at CP hR
        clear HRR
        rw [hV3]
        simp only [hy]
        cases o2 with
        | none =>
          dsimp only at hR
          subst hR
          have HP := Lib.hid (Calls.mono CP (R' := fun e w' => e = .returned (.tuple #[.slice none 0 0, .int .i64 6]) ∧ AddTo w s room D N2 w') fun e w' ⟨h1, h2⟩ => ⟨h1, AddTo.trans hD2 hkw h2⟩)
          unfold pgV leafV at HP
          clear CP hM hrow3 hrow3' hsh hD2 hkw hb3 hk3 HB HR b1 b2 b3 b4
          go_wp2_with (go_at_call 39; refine HP.out.mono ?_; rintro e V4 ⟨rfl, hA⟩; have HA := Lib.hid hA; clear hA HP)
          go_ret2
          exact ⟨⟨0, 6, rfl, rfl, rfl⟩, HA.out⟩
        | some ls =>
          dsimp only at hR
          obtain ⟨nl, hnl⟩ : ∃ nl, ls.length = nl := ⟨_, rfl⟩
          obtain ⟨p1, p2, p3⟩ := part_len hM b1 b3 (by omega) b2
          obtain ⟨p4, p5⟩ := part_some_pos hM (b4 (by simp))
          have HP := Lib.hid (Calls.mono CP (R' := fun e w' => ∃ a8 c8 D3, e = .returned (.tuple #[.slice a8 nl c8, .int .i64 0]) ∧ w'.ownsRow w.heap.size 82 2 (.slice a8 nl c8) nl (cellsP ls) ∧ IsSh w' s room N2 D3 ∧ (∀ k, D3 k → D k ∨ w.heap.size ≤ k) ∧ KeptIn (fun k => k < w.heap.size ∧ k ≠ s) w w' ∧ y < w'.heap.size ∧ w'.heap[y]? = V3.heap[y]?) fun e w' ⟨⟨a8, c8, h1, h2⟩, h3⟩ => by
            obtain ⟨D3, h5, h6, h7⟩ := AddTo.trans hD2 hkw h3
            obtain ⟨_, _, _, h8⟩ := h3
            have hyl := hb3.lt
            have hsy : s < w.heap.size := HLV.out.2.2.2.1
            have hwy : w.heap.size ≤ y := by rw [← hy]; exact HR.out.2.2.1.choose_spec.2.2.size
            exact ⟨a8, c8, D3, by rw [← hnl]; exact h1, by rw [← hnl]; exact row_weaken h2 (by have := hkw.size; omega), h5, h6, h7, Nat.lt_of_lt_of_le hyl h8.size, h8.block y ⟨hyl, by omega⟩⟩)
          have HBY := Lib.hid hb3
          have HLS := Lib.hid (And.intro p1 (And.intro p2 (And.intro p3 (And.intro p4 (And.intro p5 hnl)))))
          unfold pgV leafV at HP
          clear CP hM hrow3 hrow3' hsh hD2 hkw hb3 hk3 HB HR b1 b2 b3 b4 p1 p2 p3 p4 p5
          by_cases hgt : 1 < ls.length
          · rw [if_pos hgt, hnl] at hR
            subst hR
            obtain ⟨t1, t2⟩ := pu_gt nl (by omega)
            clear hgt
            go_wp2_with (go_at_call 39; refine HP.out.mono ?_; rintro e V4 ⟨a8, c8, D3, rfl, hrow8, hsh, hD3, hkw, hyl, hyb⟩; have hb4 : BoxL y (lv : Int) a9 m c9 V4 := hyb.trans HBY.out; have e0 := hb4.c0; have HQ := Lib.hid (And.intro hrow8 (And.intro hsh (And.intro hD3 hkw))); clear hrow8 hsh hD3 hkw hyl hyb hb4 HP)
            rw [HLV.out.1]
            obtain ⟨hrow8, hsh, hD3, hkw⟩ := HQ.out
            have hrow8' := hrow8
            rw [← HLS.out.2.2.2.2.2] at hrow8'
            have CL := trPile hsh (lv + 1) c8 ls.length a8 ls (row_listOk hrow8' HLS.out.2.1 HLV.out.2.2.2.1) (by have := HLS.out.1; omega) (by have := HLV.out.2.1; have := HLV.out.2.2.1; omega) HLS.out.2.2.1 (Nat.le_refl _)
            rw [HLS.out.2.2.2.2.2] at CL
            have HL := Lib.hid (Calls.mono CL (R' := fun e w' => ∃ p er : Nat, e = .returned (.tuple #[.int .i64 (p : Int), .int .i64 (er : Int)]) ∧ PageS w s room D (pileM (min room 511) nl (lv + 1) ls N2) e w') fun e w' h1 => by
              have h2 := h1
              obtain ⟨⟨p, er, e1, e2⟩, e3⟩ := h1
              exact ⟨p, er, e1, ⟨p, er, e1, e2⟩, AddTo.trans hD3 hkw e3⟩)
            unfold pgV at HL
            clear hrow8 hsh hD3 hkw hrow8' CL
            go_wp2_with (go_at_call 40; refine HL.out.mono ?_; rintro e V5 ⟨p, er, rfl, hS⟩; have HS := Lib.hid hS; clear hS HL)
            go_ret2
            exact HS.out
          · rw [if_neg hgt] at hR
            subst hR
            obtain ⟨t1, t2⟩ := pu_le nl (by omega)
            have q0 : 0 < nl := by have := HLS.out.2.2.2.1; omega
            have q1 : (0 : Int) < (nl : Int) := by omega
            obtain ⟨vv, hvv⟩ : ∃ vv, valAt ls 0 = vv := ⟨_, rfl⟩
            have hv511 : vv ≤ 511 := by have := HLS.out.2.2.2.2.1 0 HLS.out.2.2.2.1; omega
            obtain ⟨u1, u2⟩ := to_page vv hv511
            have HVV := Lib.hid hvv
            clear hgt hvv hv511
            go_wp2_with (go_at_call 39; refine HP.out.mono ?_; rintro e V4 ⟨a8, c8, D3, rfl, hrow8, hsh, hD3, hkw, hyl, hyb⟩; obtain ⟨b9, o9, rfl, hb9, hc9⟩ := (row_IsPs (qs := ls) (by rw [HLS.out.2.2.2.2.2]; exact hrow8) HLS.out.2.1).cells HLS.out.2.2.2.1; have x1 := (hc9 0 HLS.out.2.2.2.1).2; rw [HVV.out, Nat.zero_mul, Nat.add_zero] at x1; have HA := Lib.hid (And.intro hsh (And.intro hD3 hkw)); clear hrow8 hsh hD3 hkw hyl hyb hc9 hb9 HP)
            go_ret2
            exact ⟨⟨vv, 0, rfl, HVV.out.symm, rfl⟩, D3, HA.out⟩

end Go.Proofs.Ytdbohcdjamhdjaa
