/- The document's rows of chunks and owners: Add. -/
import Derived.Test.YtononiedecpllaaRr13
import Derived.Test.YtononiedecpllaaQk13
set_option linter.unusedVariables false
namespace Go.Proofs.Ytononiedecpllaa
open Go.RowKit


set_option maxHeartbeats 2000000 in
set_option maxRecDepth 100000 in
theorem rAdd (a : Option Addr) (cap : Nat) (l : List On) (x : On) (B0 : Nat) (w : World) (h : RowN w B0 (.slice a l.length cap) l) (hl : l.length ≤ 900) :
    Calls Try.prog 10 #[.slice a l.length cap, onV x] w (NewN w (insN l x)) := by
  obtain ⟨V0, hV⟩ : ∃ W, w.alloc (.cells #[.int .i64 x.ch, .int .i64 x.ow.vol, .int .i64 x.ow.bir, .int .i64 x.ow.pos] 35) = W := ⟨_, rfl⟩
  have hb : BoxN w.heap.size x V0 := by rw [← hV]; exact BoxN.new w x
  have hk : KeptIn (· < w.heap.size) w V0 := by rw [← hV]; exact (KeptIn.refl _ w).alloc (fun _ h => h) _
  obtain ⟨n, hn⟩ : ∃ n, l.length = n := ⟨_, rfl⟩
  obtain ⟨B, hB⟩ : ∃ B, V0.heap.size = B := ⟨_, rfl⟩
  obtain ⟨W0, hW⟩ : ∃ W, V0.alloc (.cells #[] 35) = W := ⟨_, rfl⟩
  obtain ⟨bx, hbx⟩ : ∃ bx, w.heap.size = bx := ⟨_, rfl⟩
  have h0 := EnJ.zero V0
  rw [hW, hB] at h0
  have h' := h.old hk
  rw [hbx] at hb
  rw [hn] at h' hl ⊢
  have m0 : (n : Int) ≤ 1000 := by omega
  have H := Lib.hid h'
  have HN := Lib.hid hn
  have HW := Lib.hid (And.intro hW hB)
  have HV := Lib.hid (And.intro hV hbx)
  have HK := Lib.hid (And.intro hk hb)
  obtain ⟨ii, hii, hz0, hz1, hz2⟩ := info_parts infoOn
  have HJ0 : Hid (EnJ B V0 (outN l x 0) (.slice (some ⟨B, 0, none⟩) 0 0) W0 ∧ decide (plN l x < 0) = false) := Lib.hid ⟨by rw [outN_zero]; exact h0, decide_eq_false (Nat.not_lt_zero _)⟩
  have HL := Lib.hid fun (y : On) (V : World) => rLess x y V
  clear h h' hn hW hB h0 hV hb hk hbx
  unfold onV at *
  go_enter Try.func10, Try.ntmps10
  go_upto_region 1 with fail
  rw [HV.out.1, HV.out.2]
  go_upto_region 2 with fail
  rw [HW.out.1, HW.out.2]
  go_wp2_with fail
  go_loopw [5, 6, 7] (fun v d i wr => ∃ (j : Nat) (W : World) (v0 : Value) (t : Bool), W = wr ∧ v0 = v ∧ Value.bool t = d ∧ j ≤ n ∧ i = .int .i64 (j : Int) ∧ Hid (EnJ B V0 (outN l x j) v0 W ∧ decide (plN l x < j) = t)) (fun _ _ i _ => n - (RowKit.intOf i).toNat)
  case atStart => exact ⟨0, _, _, _, rfl, rfl, rfl, Nat.zero_le _, rfl, HJ0⟩
  case round =>
    obtain ⟨j, W, v0, t, rfl, rfl, rfl, hj, rfl, HJ⟩ := hrel
    clear HJ0
    have hBW0 : B ≤ W.heap.size := by have := HJ.out.1.2.size; rw [HW.out.2] at this; exact this
    have hkw := HJ.out.1.2
    rw [← HW.out.2] at hkw
    obtain ⟨m, hm⟩ : ∃ m, (outN l x j).length = m := ⟨_, rfl⟩
    have hmb : m ≤ 901 := by
      have h1 := outN_length l x j
      omega
    have HM := Lib.hid hm
    obtain ⟨hb1, _, hb3⟩ := en_bnd (show m ≤ 1000 by omega)
    obtain ⟨hb1', _, hb3'⟩ := en_bnd (show m + 1 ≤ 1000 by omega)
    have HB2 := Lib.hid (And.intro hb1' hb3')
    clear hm hmb hb1' hb3'
    by_cases hlt : j < n
    · have d0 : (0 : Int) ≤ (j : Int) := by omega
      have d1 : (j : Int) < (n : Int) := by omega
      obtain ⟨y, hy⟩ : ∃ y, l[j]? = some y := ⟨_, List.getElem?_eq_getElem (by rw [HN.out]; exact hlt)⟩
      obtain ⟨g, rfl, hg, _⟩ := (H.out.old hkw).at hy
      have hcs : ∀ V, KeptIn (· < V0.heap.size) V0 V → V.cell? ⟨g, j * 4, none⟩ = some (.int .i64 y.ch) ∧ V.cell? ⟨g, j * 4 + 1, none⟩ = some (.int .i64 y.ow.vol) ∧ V.cell? ⟨g, j * 4 + 2, none⟩ = some (.int .i64 y.ow.bir) ∧ V.cell? ⟨g, j * 4 + 3, none⟩ = some (.int .i64 y.ow.pos) := fun V hk => by
        obtain ⟨g', e', _, r⟩ := (H.out.old hk).at hy
        cases e'
        exact r
      have HCS := Lib.hid hcs
      have c0 : ∀ p : KW W, p.V.cell? ⟨g, j * 4, none⟩ = some (.int .i64 y.ch) := fun p => (hcs p.V (hkw.on p.hk)).1
      have c1 : ∀ p : KW W, p.V.cell? ⟨g, j * 4 + 1, none⟩ = some (.int .i64 y.ow.vol) := fun p => (hcs p.V (hkw.on p.hk)).2.1
      have c2 : ∀ p : KW W, p.V.cell? ⟨g, j * 4 + 2, none⟩ = some (.int .i64 y.ow.bir) := fun p => (hcs p.V (hkw.on p.hk)).2.2.1
      have c3 : ∀ p : KW W, p.V.cell? ⟨g, j * 4 + 3, none⟩ = some (.int .i64 y.ow.pos) := fun p => (hcs p.V (hkw.on p.hk)).2.2.2
      have q0 : ∀ p : KW W, p.V.cell? ⟨bx, 0, none⟩ = some (.int .i64 x.ch) := fun p => (HK.out.2.old (hkw.on p.hk)).cells.1
      have q1 : ∀ p : KW W, p.V.cell? ⟨bx, 1, none⟩ = some (.int .i64 x.ow.vol) := fun p => (HK.out.2.old (hkw.on p.hk)).cells.2.1
      have q2 : ∀ p : KW W, p.V.cell? ⟨bx, 2, none⟩ = some (.int .i64 x.ow.bir) := fun p => (HK.out.2.old (hkw.on p.hk)).cells.2.2.1
      have q3 : ∀ p : KW W, p.V.cell? ⟨bx, 3, none⟩ = some (.int .i64 x.ow.pos) := fun p => (HK.out.2.old (hkw.on p.hk)).cells.2.2.2
      have HY := Lib.hid hy
      have CF := Lib.hid fun (p : KW W) => HL.out y p.V
      clear hcs hkw hy hg
      cases t with
      | true =>
        have HPL := Lib.hid (of_decide_eq_true HJ.out.2)
        clear HL
        go_wp2_with fail
        refine wp_region_quiet_kept (by kernel_rfl) (by kernel_rfl) ?_
        repeat (go_big_quiet_step ((go_at_call 26; exact Calls.kept_of (CF.out _))))
        refine wpQuiet_nil ?_
        intro V hw'
        obtain ⟨⟨V1, hV⟩, hw''⟩ := hw'
        subst hw''
        have HJv := Lib.hid (HJ.out.1.old hBW0 hV)
        have hBW : B ≤ V.heap.size := Nat.le_trans hBW0 hV.size
        have hrow : V.ownsRow B 35 4 v0 m (cellsN (outN l x j)) := by rw [← HM.out]; exact HJv.out.1
        have HRW := Lib.hid hrow
        have e0 := c0 ⟨V, hV⟩
        have e1 := c1 ⟨V, hV⟩
        have e2 := c2 ⟨V, hV⟩
        have e3 := c3 ⟨V, hV⟩
        have HO := Lib.hid (outN_old (x := x) (by have := HPL.out; omega) HY.out)
        dsimp only at e0 e1 e2 e3
        clear hrow hV c0 c1 c2 c3 q0 q1 q2 q3 CF
        go_wp2_with (first
          | (at_builtin; refine wpList_append_own _ rfl _ _ 27 rfl B 35 ii _ 4 32 Try.underlying27 hii hz0 hz1 hz2 rfl (by decide) _ _ _ rfl (World.ownsRow.alloc HRW.out _) ⟨V.heap.size, 0, none⟩ 1 1 [.int .i64 y.ch, .int .i64 y.ow.vol, .int .i64 y.ow.bir, .int .i64 y.ow.pos] rfl rfl (World.news_of_block (cs := #[.int .i64 y.ch, .int .i64 y.ow.vol, .int .i64 y.ow.bir, .int .i64 y.ow.pos]) (t := 35) (fr := (0, 0)) (heap_alloc_new V _)) (by simp [Value.oneCell']) hb1 hb3 (by rw [World.size_alloc]; exact Nat.le_succ_of_le hBW) ?_)
          )
        intro v' w8 hown hgrow _
        have HJ2 : Hid (EnJ B V0 (outN l x (j + 1)) v' w8 ∧ decide (plN l x < j + 1) = true) := Lib.hid ⟨by
          rw [HO.out]
          exact HJv.out.next (o := y) HW.out.2 (by rw [HM.out]; exact hown) hgrow, (decide_eq_true (by have := HPL.out; omega))⟩
        clear hown hgrow HJ HJv hb1 hb3 HRW e0 e1 e2 e3
        go_wp2_with fail
        go_roundw
        case rel => exact ⟨j + 1, _, _, _, rfl, rfl, rfl, by omega, by go_num, HJ2⟩
        case measure => simp only [RowKit.intOf]; omega
      | false =>
        have HPL := Lib.hid (of_decide_eq_false HJ.out.2)
        have hla := less_at (x := x) (y := y) (i := j) (by have := HPL.out; omega) HY.out
        rw [hla] at CF
        clear HL hla
        by_cases hjp : j = plN l x
        · rw [decide_eq_true hjp] at CF
          have HJP := Lib.hid hjp
          clear hjp
          go_wp2_with fail
          refine wp_region_quiet_kept (by kernel_rfl) (by kernel_rfl) ?_
          repeat (go_big_quiet_step ((go_at_call 26; exact Calls.kept_of (CF.out _))))
          refine wpQuiet_nil ?_
          intro V hw'
          obtain ⟨⟨V1, hV⟩, hw''⟩ := hw'
          subst hw''
          have HJv := Lib.hid (HJ.out.1.old hBW0 hV)
          have hBW : B ≤ V.heap.size := Nat.le_trans hBW0 hV.size
          have hrow : V.ownsRow B 35 4 v0 m (cellsN (outN l x j)) := by rw [← HM.out]; exact HJv.out.1
          have HRW := Lib.hid hrow
          have f0 := q0 ⟨V, hV⟩
          have f1 := q1 ⟨V, hV⟩
          have f2 := q2 ⟨V, hV⟩
          have f3 := q3 ⟨V, hV⟩
          have HO := Lib.hid (outN_new HJP.out HY.out)
          dsimp only at f0 f1 f2 f3
          clear hrow hV c0 c1 c2 c3 q0 q1 q2 q3 CF
          go_wp2_with (first
            | (at_builtin; refine wpList_append_own _ rfl _ _ 27 rfl B 35 ii _ 4 32 Try.underlying27 hii hz0 hz1 hz2 rfl (by decide) _ _ _ rfl (World.ownsRow.alloc HRW.out _) ⟨V.heap.size, 0, none⟩ 1 1 [.int .i64 x.ch, .int .i64 x.ow.vol, .int .i64 x.ow.bir, .int .i64 x.ow.pos] rfl rfl (World.news_of_block (cs := #[.int .i64 x.ch, .int .i64 x.ow.vol, .int .i64 x.ow.bir, .int .i64 x.ow.pos]) (t := 35) (fr := (0, 0)) (heap_alloc_new V _)) (by simp [Value.oneCell']) hb1 hb3 (by rw [World.size_alloc]; exact Nat.le_succ_of_le hBW) ?_)
            )
          intro v' w8 hown hgrow _
          have HJ8 : Hid (EnJ B V0 (outN l x j ++ [x]) v' w8) := Lib.hid (HJv.out.next (o := x) HW.out.2 (by rw [HM.out]; exact hown) hgrow)
          have hk8 := HJ8.out.2
          rw [← HW.out.2] at hk8
          obtain ⟨e0, e1, e2, e3⟩ := HCS.out w8 hk8
          clear hown hgrow hb1 hb3 HRW hBW f0 f1 f2 f3 HJv HJ
          have hBW : B ≤ w8.heap.size := by have := hk8.size; rw [HW.out.2] at this; exact this
          have hrow : w8.ownsRow B 35 4 v' (m + 1) (cellsN (outN l x j ++ [x])) := by
            have h1 : (outN l x j ++ [x]).length = m + 1 := by rw [List.length_append, HM.out]; rfl
            rw [← h1]
            exact HJ8.out.1
          have HRW := Lib.hid hrow
          obtain ⟨hb1, hb3⟩ := HB2.out
          clear hrow hk8
          go_wp2_with (first
            | (at_builtin; refine wpList_append_own _ rfl _ _ 27 rfl B 35 ii _ 4 32 Try.underlying27 hii hz0 hz1 hz2 rfl (by decide) _ _ _ rfl (World.ownsRow.alloc HRW.out _) ⟨w8.heap.size, 0, none⟩ 1 1 [.int .i64 y.ch, .int .i64 y.ow.vol, .int .i64 y.ow.bir, .int .i64 y.ow.pos] rfl rfl (World.news_of_block (cs := #[.int .i64 y.ch, .int .i64 y.ow.vol, .int .i64 y.ow.bir, .int .i64 y.ow.pos]) (t := 35) (fr := (0, 0)) (heap_alloc_new w8 _)) (by simp [Value.oneCell']) hb1 hb3 (by rw [World.size_alloc]; exact Nat.le_succ_of_le hBW) ?_)
            )
          intro v'' w9 hown hgrow _
          have HJ2 : Hid (EnJ B V0 (outN l x (j + 1)) v'' w9 ∧ decide (plN l x < j + 1) = true) := Lib.hid ⟨by
            rw [HO.out]
            refine HJ8.out.next (o := y) HW.out.2 ?_ hgrow
            rw [List.length_append, HM.out]
            exact hown, decide_eq_true (by have := HJP.out; omega)⟩
          clear hown hgrow HJ8 hb1 hb3 HRW e0 e1 e2 e3
          go_wp2_with fail
          go_roundw
          case rel => exact ⟨j + 1, _, _, _, rfl, rfl, rfl, by omega, by go_num, HJ2⟩
          case measure => simp only [RowKit.intOf]; omega
        · rw [decide_eq_false hjp] at CF
          have HJP := Lib.hid hjp
          clear hjp
          go_wp2_with fail
          refine wp_region_quiet_kept (by kernel_rfl) (by kernel_rfl) ?_
          repeat (go_big_quiet_step ((go_at_call 26; exact Calls.kept_of (CF.out _))))
          refine wpQuiet_nil ?_
          intro V hw'
          obtain ⟨⟨V1, hV⟩, hw''⟩ := hw'
          subst hw''
          have HJv := Lib.hid (HJ.out.1.old hBW0 hV)
          have hBW : B ≤ V.heap.size := Nat.le_trans hBW0 hV.size
          have hrow : V.ownsRow B 35 4 v0 m (cellsN (outN l x j)) := by rw [← HM.out]; exact HJv.out.1
          have HRW := Lib.hid hrow
          have e0 := c0 ⟨V, hV⟩
          have e1 := c1 ⟨V, hV⟩
          have e2 := c2 ⟨V, hV⟩
          have e3 := c3 ⟨V, hV⟩
          have HO := Lib.hid (outN_old (x := x) HJP.out HY.out)
          dsimp only at e0 e1 e2 e3
          clear hrow hV c0 c1 c2 c3 q0 q1 q2 q3 CF
          go_wp2_with (first
            | (at_builtin; refine wpList_append_own _ rfl _ _ 27 rfl B 35 ii _ 4 32 Try.underlying27 hii hz0 hz1 hz2 rfl (by decide) _ _ _ rfl (World.ownsRow.alloc HRW.out _) ⟨V.heap.size, 0, none⟩ 1 1 [.int .i64 y.ch, .int .i64 y.ow.vol, .int .i64 y.ow.bir, .int .i64 y.ow.pos] rfl rfl (World.news_of_block (cs := #[.int .i64 y.ch, .int .i64 y.ow.vol, .int .i64 y.ow.bir, .int .i64 y.ow.pos]) (t := 35) (fr := (0, 0)) (heap_alloc_new V _)) (by simp [Value.oneCell']) hb1 hb3 (by rw [World.size_alloc]; exact Nat.le_succ_of_le hBW) ?_)
            )
          intro v' w8 hown hgrow _
          have HJ2 : Hid (EnJ B V0 (outN l x (j + 1)) v' w8 ∧ decide (plN l x < j + 1) = false) := Lib.hid ⟨by
            rw [HO.out]
            exact HJv.out.next (o := y) HW.out.2 (by rw [HM.out]; exact hown) hgrow, (decide_eq_false (by have := HPL.out; have := HJP.out; omega))⟩
          clear hown hgrow HJ HJv hb1 hb3 HRW e0 e1 e2 e3
          go_wp2_with fail
          go_roundw
          case rel => exact ⟨j + 1, _, _, _, rfl, rfl, rfl, by omega, by go_num, HJ2⟩
          case measure => simp only [RowKit.intOf]; omega
    · obtain rfl : j = n := by omega
      have hend := outN_end l x
      rw [HN.out] at hend
      cases t with
      | true =>
        rw [if_pos (of_decide_eq_true HJ.out.2)] at hend
        have HE := Lib.hid hend
        clear hend hkw hlt hj
        go_wp2_with fail
        go_ret
        refine ⟨_, rfl, ?_, ?_⟩
        · rw [HE.out]
          exact HJ.out.1.1.mono (by rw [← HW.out.2]; exact HK.out.1.size)
        · have hk2 := HJ.out.1.2
          rw [← HW.out.2] at hk2
          exact HK.out.1.on hk2
      | false =>
        rw [if_neg (of_decide_eq_false HJ.out.2)] at hend
        have HE := Lib.hid hend
        obtain ⟨q0, q1, q2, q3⟩ := (HK.out.2.old hkw).cells
        have hrow : W.ownsRow B 35 4 v0 m (cellsN (outN l x j)) := by rw [← HM.out]; exact HJ.out.1.1
        have HRW := Lib.hid hrow
        have hBW := hBW0
        clear hend hkw hlt hj hrow hBW0
        go_wp2_with (first
          | (at_builtin; refine wpList_append_own _ rfl _ _ 27 rfl B 35 ii _ 4 32 Try.underlying27 hii hz0 hz1 hz2 rfl (by decide) _ _ _ rfl (World.ownsRow.alloc HRW.out _) ⟨W.heap.size, 0, none⟩ 1 1 [.int .i64 x.ch, .int .i64 x.ow.vol, .int .i64 x.ow.bir, .int .i64 x.ow.pos] rfl rfl (World.news_of_block (cs := #[.int .i64 x.ch, .int .i64 x.ow.vol, .int .i64 x.ow.bir, .int .i64 x.ow.pos]) (t := 35) (fr := (0, 0)) (heap_alloc_new W _)) (by simp [Value.oneCell']) hb1 hb3 (by rw [World.size_alloc]; exact Nat.le_succ_of_le hBW) ?_)
          )
        intro v' w8 hown hgrow _
        have HJ2 : Hid (EnJ B V0 (insN l x) v' w8) := Lib.hid (by
          rw [HE.out]
          exact HJ.out.1.next (o := x) HW.out.2 (by rw [HM.out]; exact hown) hgrow)
        clear hown hgrow HJ hb1 hb3 HRW q0 q1 q2 q3
        go_wp2_with fail
        go_ret
        refine ⟨_, rfl, ?_, ?_⟩
        · exact HJ2.out.1.mono (by rw [← HW.out.2]; exact HK.out.1.size)
        · have hk2 := HJ2.out.2
          rw [← HW.out.2] at hk2
          exact HK.out.1.on hk2

end Go.Proofs.Ytononiedecpllaa
