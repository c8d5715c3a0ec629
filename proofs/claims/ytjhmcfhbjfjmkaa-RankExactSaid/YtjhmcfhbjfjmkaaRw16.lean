/- The document's Up (tierceref16). -/
import Derived.Test.YtjhmcfhbjfjmkaaRy16
set_option linter.unusedVariables false
namespace Go.Proofs.Ytjhmcfhbjfjmkaa
open Go.RowKit

theorem lv_dec (k : Nat) (h1 : 1 ≤ k) (h2 : k ≤ 9) : ∃ k2 : Nat, k2 + 1 = k ∧ wrap64 ((k : Int) - 1) = (k2 : Int) ∧ (k : Int) - 1 = (k2 : Int) := ⟨k - 1, by omega, by unfold wrap64; omega, by omega⟩

theorem meas16 {m j : Nat} (h : j < m) (hm : (m : Int) ≤ 1000) : m - (intOf (.int .i64 (wrap64 ((j : Int) + 1)))).toNat < m - (intOf (.int .i64 (j : Int))).toNat := by
  have e : wrap64 ((j : Int) + 1) = (j : Int) + 1 := by unfold wrap64; omega
  rw [e]
  simp only [intOf]
  omega
theorem meas17 {m j : Nat} (h : j < m) : m - (intOf (.int .i64 ((j : Int) + 1))).toNat < m - (intOf (.int .i64 (j : Int))).toNat := by simp only [intOf]; omega
def slowL (l : List It16) : List It16 := l.filter slow16
def pinL (l : List It16) : List It16 := (slowL l).filter It16.pn

set_option maxHeartbeats 4000000 in
set_option maxRecDepth 100000 in
theorem r16Up (a : Option Addr) (cap : Nat) (l : List It16) (n : Int) (w : World) (h : IsI w a l) (hl : l.length ≤ 1000) :
    Calls Try.prog 13 #[.slice a l.length cap, .int .i64 n] w (InS w (pk (upL l) n).ch) := by
  obtain ⟨m, hm⟩ : ∃ m, l.length = m := ⟨_, rfl⟩
  have hmI : (m : Int) ≤ 1000 := by omega
  have H := Lib.hid h
  have HM := Lib.hid hm
  obtain ⟨R, hR⟩ : ∃ R, (pk (upL l) n).ch = R := ⟨_, rfl⟩
  have HR := Lib.hid hR
  rw [hm, hR]
  have hS := U2.start w
  obtain ⟨W0, hW0⟩ : ∃ W0, (w.alloc (.cells #[] 38)).alloc (.cells #[] 38) = W0 := ⟨_, rfl⟩
  obtain ⟨B, hB⟩ : ∃ B, w.heap.size = B := ⟨_, rfl⟩
  rw [hW0, hB] at hS
  have HW := Lib.hid hW0
  have HB := Lib.hid hB
  have HJ0 : Hid (U2 B w (pinL (l.take 0)) (slowL (l.take 0)) (.slice (some ⟨B, 0, none⟩) 0 0) (.slice (some ⟨B + 1, 0, none⟩) 0 0) W0) := Lib.hid hS
  obtain ⟨ii, hii, hz0, hz1, hz2⟩ := info_parts infoIt16
  clear h hm hl hR hB hW0 hS
  go_enter Try.func13, Try.ntmps13
  go_wp2_with fail
  rw [HW.out]
  simp only [HB.out]
  go_loopw [5, 6, 7] (fun p s i wr => ∃ (j : Nat) (W : World) (v1 v2 : Value), W = wr ∧ v1 = p ∧ v2 = s ∧ j ≤ m ∧ i = .int .i64 (j : Int) ∧ Hid (U2 B w (pinL (l.take j)) (slowL (l.take j)) v1 v2 W)) (fun _ _ i _ => m - (intOf i).toNat)
  case atStart => exact ⟨0, _, _, _, rfl, rfl, rfl, Nat.zero_le _, rfl, HJ0⟩
  case round =>
    obtain ⟨j, W, v1, v2, rfl, rfl, rfl, hj, rfl, HJ⟩ := hrel
    clear HJ0 HW
    by_cases hlt : j < m
    · have d0 : (0 : Int) ≤ (j : Int) := by omega
      have d1 : (j : Int) < (m : Int) := by omega
      have hjl : j < l.length := by rw [HM.out]; exact hlt
      obtain ⟨b, off, rfl, hb, hc⟩ := (H.out.old (HJ.out.kept.mono fun k hk => by rw [← HB.out]; exact hk)).cells (by omega)
      have hcj := hc j hjl
      have hT := take_snoc16 l j hjl
      obtain ⟨x, hx⟩ : ∃ x, l[j] = x := ⟨_, rfl⟩
      rw [hx] at hcj hT
      have hF : slowL (l.take (j + 1)) = if slow16 x = true then slowL (l.take j) ++ [x] else slowL (l.take j) := by rw [hT]; exact filter_snoc16 slow16 (l.take j) x
      have hF2 : pinL (l.take (j + 1)) = if slow16 x = true then (if x.pn = true then pinL (l.take j) ++ [x] else pinL (l.take j)) else pinL (l.take j) := by
        show (slowL (l.take (j + 1))).filter It16.pn = _
        rw [hF]
        split
        · exact filter_snoc16 It16.pn (slowL (l.take j)) x
        · rfl
      obtain ⟨ch, he, ti, pn, bu⟩ := x
      obtain ⟨c1, c2, c3, c4, c5⟩ := hcj
      simp only at c1 c2 c3 c4 c5
      have HBW : Hid (B ≤ W.heap.size) := Lib.hid (by have := HJ.out.kept.size; have := HB.out; omega)
      have hls : (slowL (l.take j)).length ≤ j := filter_le16 slow16 l j
      have hlp : (pinL (l.take j)).length ≤ j := Nat.le_trans (List.length_filter_le _ _) hls
      have HBS := Lib.hid (it_bnd (slowL (l.take j)).length (by omega))
      have HBP := Lib.hid (it_bnd (pinL (l.take j)).length (by omega))
      have HF := Lib.hid (And.intro hF hF2)
      have HX := Lib.hid hx
      clear hc hb hT hF hF2 hls hlp hx
      by_cases ht : ti = 0
      · have t0 : (ti == 0) = true := by rw [beq_iff_eq]; exact ht
        cases bu with
        | true =>
          have hs : slow16 ⟨ch, he, ti, pn, true⟩ = false := by unfold slow16; simp
          have HJ9 : Hid (U2 B w (pinL (l.take (j + 1))) (slowL (l.take (j + 1))) v1 v2 W) := Lib.hid (by rw [HF.out.1, HF.out.2, if_neg (by rw [hs]; decide), if_neg (by rw [hs]; decide)]; exact HJ.out)
          clear hs HF ht HJ HX hjl
          go_wp2_with fail
          go_roundw
          case rel => exact ⟨j + 1, _, _, _, rfl, rfl, rfl, by omega, by go_num, HJ9⟩
          case measure => first | exact meas16 hlt hmI | exact meas17 hlt
        | false =>
          have hs : slow16 ⟨ch, he, ti, pn, false⟩ = true := by unfold slow16; simp [ht]
          have HS := Lib.hid hs
          clear hs ht
          cases pn with
          | false =>
            have HE9 : Hid (slowL (l.take (j + 1)) = slowL (l.take j) ++ [⟨ch, he, ti, false, false⟩] ∧ pinL (l.take (j + 1)) = pinL (l.take j)) := Lib.hid ⟨by rw [HF.out.1, if_pos HS.out], by rw [HF.out.2, if_pos HS.out, if_neg (fun h => by cases h)]⟩
            clear HF
            go_wp2_with (at_builtin; refine wpList_append_lies _ rfl _ _ 24 rfl B 38 ii _ 5 32 Try.underlying24 hii hz0 hz1 hz2 rfl (by omega) v2 (slowL (l.take j)).length _ (by rfl) (World.ownsRow.alloc (show W.ownsRow B 38 5 v2 (slowL (l.take j)).length (cellsI (slowL (l.take j))) from HJ.out.r2) _) ⟨W.heap.size, 0, none⟩ 1 1 [.int .i64 ch, .int .i64 he, .int .i64 ti, .bool false, .bool false] (by rfl) (by rfl) (World.news_of_block (cs := #[.int .i64 ch, .int .i64 he, .int .i64 ti, .bool false, .bool false]) (t := 38) (fr := (0, 0)) (heap_alloc_new W _)) (by simp [Value.oneCell']) (by omega) HBS.out.1 HBS.out.2 (by rw [World.size_alloc]; exact Nat.le_succ_of_le HBW.out) (W.heap.size + 1) (by simp) ?_)
            intro gg cap' w8 hown hgrow hat _
            have HJ2 := Lib.hid (HJ.out.app2 (x := ⟨ch, he, ti, false, false⟩) HBW.out hgrow hat hown)
            have hc2 := (H.out.old (HJ2.out.kept.mono fun k hk => by rw [← HB.out]; exact hk)).cells (by omega)
            obtain ⟨b2, off2, e2, _, hc2⟩ := hc2
            cases e2
            have hcj2 := hc2 j hjl
            rw [HX.out] at hcj2
            obtain ⟨e1, e2, e3, e4, e5⟩ := hcj2
            simp only at e1 e2 e3 e4 e5
            have HJ9 : Hid (U2 B w (pinL (l.take (j + 1))) (slowL (l.take (j + 1))) v1 (.slice (some ⟨gg, 0, none⟩) ((slowL (l.take j)).length + 1) cap') w8) := Lib.hid (by rw [HE9.out.1, HE9.out.2]; exact HJ2.out)
            clear HS HE9 HJ HX hjl hown hgrow hat HJ2 hc2 c1 c2 c3 c4 c5 HBP HBS
            go_wp2_with fail
            go_roundw
            case rel => exact ⟨j + 1, _, _, _, rfl, rfl, rfl, by omega, by go_num, HJ9⟩
            case measure => first | exact meas16 hlt hmI | exact meas17 hlt
          | true =>
            have HE9 : Hid (slowL (l.take (j + 1)) = slowL (l.take j) ++ [⟨ch, he, ti, true, false⟩] ∧ pinL (l.take (j + 1)) = pinL (l.take j) ++ [⟨ch, he, ti, true, false⟩]) := Lib.hid ⟨by rw [HF.out.1, if_pos HS.out], by rw [HF.out.2, if_pos HS.out, if_pos rfl]⟩
            clear HF
            go_wp2_with (at_builtin; refine wpList_append_lies _ rfl _ _ 24 rfl B 38 ii _ 5 32 Try.underlying24 hii hz0 hz1 hz2 rfl (by omega) v2 (slowL (l.take j)).length _ (by rfl) (World.ownsRow.alloc (show W.ownsRow B 38 5 v2 (slowL (l.take j)).length (cellsI (slowL (l.take j))) from HJ.out.r2) _) ⟨W.heap.size, 0, none⟩ 1 1 [.int .i64 ch, .int .i64 he, .int .i64 ti, .bool true, .bool false] (by rfl) (by rfl) (World.news_of_block (cs := #[.int .i64 ch, .int .i64 he, .int .i64 ti, .bool true, .bool false]) (t := 38) (fr := (0, 0)) (heap_alloc_new W _)) (by simp [Value.oneCell']) (by omega) HBS.out.1 HBS.out.2 (by rw [World.size_alloc]; exact Nat.le_succ_of_le HBW.out) (W.heap.size + 1) (by simp) ?_)
            intro gg cap' w8 hown hgrow hat _
            have HJ2 := Lib.hid (HJ.out.app2 (x := ⟨ch, he, ti, true, false⟩) HBW.out hgrow hat hown)
            have hc2 := (H.out.old (HJ2.out.kept.mono fun k hk => by rw [← HB.out]; exact hk)).cells (by omega)
            obtain ⟨b2, off2, e2, _, hc2⟩ := hc2
            cases e2
            have hcj2 := hc2 j hjl
            rw [HX.out] at hcj2
            obtain ⟨e1, e2, e3, e4, e5⟩ := hcj2
            simp only at e1 e2 e3 e4 e5
            have HBW2 : Hid (B ≤ w8.heap.size) := Lib.hid (by have := HJ2.out.kept.size; have := HB.out; omega)
            clear HJ hown hgrow hat hc2 c1 c2 c3 c4 c5 HBS HBW
            go_wp2_with (at_builtin; refine wpList_append_lies _ rfl _ _ 24 rfl B 38 ii _ 5 32 Try.underlying24 hii hz0 hz1 hz2 rfl (by omega) v1 (pinL (l.take j)).length _ (by rfl) (World.ownsRow.alloc (show w8.ownsRow B 38 5 v1 (pinL (l.take j)).length (cellsI (pinL (l.take j))) from HJ2.out.r1) _) ⟨w8.heap.size, 0, none⟩ 1 1 [.int .i64 ch, .int .i64 he, .int .i64 ti, .bool true, .bool false] (by rfl) (by rfl) (World.news_of_block (cs := #[.int .i64 ch, .int .i64 he, .int .i64 ti, .bool true, .bool false]) (t := 38) (fr := (0, 0)) (heap_alloc_new w8 _)) (by simp [Value.oneCell']) (by omega) HBP.out.1 HBP.out.2 (by rw [World.size_alloc]; exact Nat.le_succ_of_le HBW2.out) (w8.heap.size + 1) (by simp) ?_)
            intro g3 cap3 w9 hown hgrow hat _
            have HJ9 : Hid (U2 B w (pinL (l.take (j + 1))) (slowL (l.take (j + 1))) (.slice (some ⟨g3, 0, none⟩) ((pinL (l.take j)).length + 1) cap3) (.slice (some ⟨gg, 0, none⟩) ((slowL (l.take j)).length + 1) cap') w9) := Lib.hid (by rw [HE9.out.1, HE9.out.2]; exact HJ2.out.app1 (x := ⟨ch, he, ti, true, false⟩) HBW2.out hgrow hat hown)
            clear HS HE9 HX hjl hown hgrow hat HJ2 e1 e2 e3 e4 e5 HBP
            go_wp2_with fail
            go_roundw
            case rel => exact ⟨j + 1, _, _, _, rfl, rfl, rfl, by omega, by go_num, HJ9⟩
            case measure => first | exact meas16 hlt hmI | exact meas17 hlt
      · have t0 : (ti == 0) = false := by rw [beq_eq_false_iff_ne]; exact ht
        have hs : slow16 ⟨ch, he, ti, pn, bu⟩ = false := by unfold slow16; simp [ht]
        have HJ9 : Hid (U2 B w (pinL (l.take (j + 1))) (slowL (l.take (j + 1))) v1 v2 W) := Lib.hid (by rw [HF.out.1, HF.out.2, if_neg (by rw [hs]; decide), if_neg (by rw [hs]; decide)]; exact HJ.out)
        clear hs HF ht HJ HX hjl
        go_wp2_with fail
        go_roundw
        case rel => exact ⟨j + 1, _, _, _, rfl, rfl, rfl, by omega, by go_num, HJ9⟩
        case measure => first | exact meas16 hlt hmI | exact meas17 hlt
    · have d1 : ¬ (j : Int) < (m : Int) := by omega
      obtain rfl : j = m := by omega
      have htk : l.take j = l := List.take_of_length_le (by rw [HM.out]; omega)
      have hU := HJ.out
      rw [htk] at hU
      obtain ⟨a1, c1, e1⟩ := hU.r1.shape
      obtain ⟨a2, c2, e2⟩ := hU.r2.shape
      subst e1 e2
      have hgl : ∀ x ∈ slowL l, GdI x := fun x hx => H.out.good x (List.mem_filter.1 hx).1
      have is1 := hU.r1.is (fun x hx => hgl x (List.mem_filter.1 hx).1)
      have is2 := hU.r2.is hgl
      have hl2 : (slowL l).length ≤ 1000 := Nat.le_trans (List.length_filter_le _ _) (by have := HM.out; omega)
      have hl1 : (pinL l).length ≤ 1000 := Nat.le_trans (List.length_filter_le _ _) hl2
      have hRR : R = (pk (if pinL l = [] then atL (mostL (slowL l)) (slowL l) else pinL l) n).ch := HR.out.symm
      have HKW := Lib.hid hU.kept
      clear HJ htk hU hgl
      obtain ⟨P, hP⟩ : ∃ P, pinL l = P := ⟨_, rfl⟩
      obtain ⟨C, hC⟩ : ∃ C, slowL l = C := ⟨_, rfl⟩
      rw [hP] at is1 hl1 hRR ⊢
      rw [hC] at is2 hl2 hRR ⊢
      clear hP hC
      by_cases hp : P = []
      · rw [if_pos hp] at hRR
        subst hp
        have HRR := Lib.hid hRR
        have HI2 := Lib.hid is2
        have HL2 := Lib.hid hl2
        clear is1 hl1 hRR is2 hl2
        go_wp2_with fail
        go_loopw [8] (fun o wr => ∃ (k : Nat) (X : World), X = wr ∧ 1 ≤ k ∧ k ≤ 7 ∧ o = .int .i64 (k : Int) ∧ Hid ((∀ i, k < i → i ≤ 7 → atL i C = []) ∧ KeptIn (· < W.heap.size) W X)) (fun o _ => (intOf o).toNat)
        case atStart => exact ⟨7, _, rfl, by omega, by omega, rfl, Lib.hid ⟨fun i h1 h2 => absurd h2 (by omega), KeptIn.refl _ _⟩⟩
        case round =>
          obtain ⟨k, X, rfl, hk1, hk7, rfl, HQ⟩ := hrel
          by_cases hk2 : 2 ≤ k
          · have z1 : (2 : Int) ≤ (k : Int) := by omega
            have CL := Lib.hid (r16level k a2 c2 C X (HI2.out.old HQ.out.2) HL2.out)
            go_wp2_with fail
            refine CL.out.mono ?_
            rintro e X2 ⟨a3, c3, rfl, hr3, hk3⟩
            have hg3 : ∀ x ∈ atL k C, GdI x := fun x hx => HI2.out.good x (atL_sub _ _ x hx)
            have is3 := hr3.is hg3
            have ll3 : (atL k C).length ≤ 1000 := Nat.le_trans (List.length_filter_le _ _) HL2.out
            have HQ3 := Lib.hid (HQ.out.2.on16 hk3)
            have CP := Lib.hid (r16pick a3 c3 (atL k C) n X2 is3 ll3)
            by_cases hne : atL k C = []
            · obtain ⟨k2, hk9, i1, i2⟩ := lv_dec k hk1 (by omega)
              have HQ4 : Hid ((∀ i, k2 < i → i ≤ 7 → atL i C = []) ∧ KeptIn (· < W.heap.size) W X2) := Lib.hid ⟨fun i h1 h2 => by
                by_cases e : i = k
                · rw [e]; exact hne
                · exact HQ.out.1 i (by omega) h2, HQ3.out⟩
              rw [hne]
              clear hr3 hk3 hg3 is3 ll3 HQ HQ3 CP CL hne
              go_wp2_with fail
              go_roundw
              case rel => exact ⟨k2, _, rfl, by omega, by omega, by first | rfl | rw [i1] | rw [i2], HQ4⟩
              case measure => first | (rw [i1]; simp only [intOf]; omega) | (simp only [intOf]; omega)
            · have hR : R = (pk (atL k C) n).ch := by rw [HRR.out, most_at hk2 hk7 HQ.out.1 hne]
              have hpos : 0 < (atL k C).length := List.length_pos_iff.2 hne
              rw [← hR] at CP
              obtain ⟨m3, hm3⟩ : ∃ m3, (atL k C).length = m3 := ⟨_, rfl⟩
              rw [hm3] at CP hpos ⊢
              have z2 : (0 : Int) < (m3 : Int) := by omega
              have HE : Hid (KeptIn (· < w.heap.size) w X2) := Lib.hid (by rw [HB.out]; exact HKW.out.trans (HQ3.out.mono fun k hk => by have := HKW.out.size; have := HB.out; omega))
              clear hr3 hk3 hg3 is3 ll3 HQ HQ3 CL hne hR hm3
              go_wp2_with fail
              refine CP.out.mono ?_
              rintro e _ ⟨rfl, rfl⟩
              clear CP
              go_wp2_with fail
              go_ret
              exact ⟨rfl, HE.out⟩
          · have z1 : ¬ (2 : Int) ≤ (k : Int) := by omega
            obtain rfl : k = 1 := by omega
            have hR : R = 0 := by
              rw [HRR.out, most_none (fun i h1 h2 => HQ.out.1 i (by omega) h2)]
              rfl
            subst hR
            have HE : Hid (KeptIn (· < w.heap.size) w X) := Lib.hid (by rw [HB.out]; exact HKW.out.trans (HQ.out.2.mono fun k hk => by have := HKW.out.size; have := HB.out; omega))
            clear HQ
            go_wp2_with fail
            go_ret
            exact ⟨rfl, HE.out⟩
      · rw [if_neg hp] at hRR
        have hpos : 0 < P.length := List.length_pos_iff.2 hp
        have CP := Lib.hid (r16pick a1 c1 P n W is1 hl1)
        rw [← hRR] at CP
        obtain ⟨m3, hm3⟩ : ∃ m3, P.length = m3 := ⟨_, rfl⟩
        rw [hm3] at CP hpos ⊢
        have z2 : (0 : Int) < (m3 : Int) := by omega
        have HE : Hid (KeptIn (· < w.heap.size) w W) := Lib.hid (by rw [HB.out]; exact HKW.out)
        clear is1 hl1 hRR is2 hl2 hp hm3
        go_wp2_with fail
        refine CP.out.mono ?_
        rintro e _ ⟨rfl, rfl⟩
        clear CP
        go_wp2_with fail
        go_ret
        exact ⟨rfl, HE.out⟩

end Go.Proofs.Ytjhmcfhbjfjmkaa
