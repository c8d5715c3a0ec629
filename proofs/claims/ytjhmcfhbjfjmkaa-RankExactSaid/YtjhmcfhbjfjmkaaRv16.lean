/- The document's Down (tierceref16). -/
import Derived.Test.YtjhmcfhbjfjmkaaRw16
set_option linter.unusedVariables false
namespace Go.Proofs.Ytjhmcfhbjfjmkaa
open Go.RowKit

def fastL (l : List It16) : List It16 := l.filter fast16
theorem lv_up9 (k : Nat) (h2 : k ≤ 9) : wrap64 ((k : Int) + 1) = ((k + 1 : Nat) : Int) ∧ (k : Int) + 1 = ((k + 1 : Nat) : Int) := ⟨by unfold wrap64; omega, by omega⟩


set_option maxHeartbeats 4000000 in
set_option maxRecDepth 100000 in
theorem r16Down (a : Option Addr) (cap : Nat) (l : List It16) (n : Int) (w : World) (h : IsI w a l) (hl : l.length ≤ 1000) :
    Calls Try.prog 15 #[.slice a l.length cap, .int .i64 n] w (InS w (pk (dnL l) n).ch) := by
  obtain ⟨m, hm⟩ : ∃ m, l.length = m := ⟨_, rfl⟩
  have hmI : (m : Int) ≤ 1000 := by omega
  have H := Lib.hid h
  have HM := Lib.hid hm
  obtain ⟨R, hR⟩ : ∃ R, (pk (dnL l) n).ch = R := ⟨_, rfl⟩
  have HR := Lib.hid hR
  rw [hm, hR]
  have hS := RwJ.start 38 w
  obtain ⟨W0, hW0⟩ : ∃ W0, w.alloc (.cells #[] 38) = W0 := ⟨_, rfl⟩
  obtain ⟨B, hB⟩ : ∃ B, w.heap.size = B := ⟨_, rfl⟩
  rw [hW0, hB] at hS
  have HW := Lib.hid hW0
  have HB := Lib.hid hB
  have HJ0 : Hid (RwJ 38 B w (fastL (l.take 0)) (.slice (some ⟨B, 0, none⟩) 0 0) W0) := Lib.hid hS
  obtain ⟨ii, hii, hz0, hz1, hz2⟩ := info_parts infoIt16
  clear h hm hl hR hB hW0 hS
  go_enter Try.func15, Try.ntmps15
  go_wp2_with fail
  rw [HW.out]
  simp only [HB.out]
  go_loopw [5, 6] (fun s i wr => ∃ (j : Nat) (W : World) (v1 : Value), W = wr ∧ v1 = s ∧ j ≤ m ∧ i = .int .i64 (j : Int) ∧ Hid (RwJ 38 B w (fastL (l.take j)) v1 W)) (fun _ i _ => m - (intOf i).toNat)
  case atStart => exact ⟨0, _, _, rfl, rfl, Nat.zero_le _, rfl, HJ0⟩
  case round =>
    obtain ⟨j, W, v1, rfl, rfl, hj, rfl, HJ⟩ := hrel
    clear HJ0 HW
    by_cases hlt : j < m
    · have d0 : (0 : Int) ≤ (j : Int) := by omega
      have d1 : (j : Int) < (m : Int) := by omega
      have hjl : j < l.length := by rw [HM.out]; exact hlt
      obtain ⟨b, off, rfl, hb, hc⟩ := (H.out.old (HJ.out.2.mono fun k hk => by rw [← HB.out]; exact hk)).cells (by omega)
      have hcj := hc j hjl
      have hT := take_snoc16 l j hjl
      obtain ⟨x, hx⟩ : ∃ x, l[j] = x := ⟨_, rfl⟩
      rw [hx] at hcj hT
      have hF : fastL (l.take (j + 1)) = if fast16 x = true then fastL (l.take j) ++ [x] else fastL (l.take j) := by rw [hT]; exact filter_snoc16 fast16 (l.take j) x
      obtain ⟨ch, he, ti, pn, bu⟩ := x
      obtain ⟨c1, c2, c3, c4, c5⟩ := hcj
      simp only at c1 c2 c3 c4 c5
      have HBW : Hid (B ≤ W.heap.size) := Lib.hid (by have := HJ.out.2.size; have := HB.out; omega)
      have hls : (fastL (l.take j)).length ≤ j := filter_le16 fast16 l j
      have HBS := Lib.hid (it_bnd (fastL (l.take j)).length (by omega))
      have HF := Lib.hid hF
      clear hc hb hT hF hls hx hjl
      by_cases ht : ti = 1
      · have t0 : (ti == 1) = true := by rw [beq_iff_eq]; exact ht
        cases bu with
        | true =>
          have hs : fast16 ⟨ch, he, ti, pn, true⟩ = false := by unfold fast16; simp
          have HJ9 : Hid (RwJ 38 B w (fastL (l.take (j + 1))) v1 W) := Lib.hid (by rw [HF.out, if_neg (by rw [hs]; decide)]; exact HJ.out)
          clear hs HF ht HJ
          go_wp2_with fail
          go_roundw
          case rel => exact ⟨j + 1, _, _, rfl, rfl, by omega, by go_num, HJ9⟩
          case measure => first | exact meas16 hlt hmI | exact meas17 hlt
        | false =>
          cases pn with
          | true =>
            have hs : fast16 ⟨ch, he, ti, true, false⟩ = false := by unfold fast16; simp
            have HJ9 : Hid (RwJ 38 B w (fastL (l.take (j + 1))) v1 W) := Lib.hid (by rw [HF.out, if_neg (by rw [hs]; decide)]; exact HJ.out)
            clear hs HF ht HJ
            go_wp2_with fail
            go_roundw
            case rel => exact ⟨j + 1, _, _, rfl, rfl, by omega, by go_num, HJ9⟩
            case measure => first | exact meas16 hlt hmI | exact meas17 hlt
          | false =>
            have hs : fast16 ⟨ch, he, ti, false, false⟩ = true := by unfold fast16; simp [ht]
            have HE9 : Hid (fastL (l.take (j + 1)) = fastL (l.take j) ++ [⟨ch, he, ti, false, false⟩]) := Lib.hid (by rw [HF.out, if_pos hs])
            clear hs ht HF
            go_wp2_with (at_builtin; refine wpList_append_lies _ rfl _ _ 24 rfl B 38 ii _ 5 32 Try.underlying24 hii hz0 hz1 hz2 rfl (by omega) v1 (fastL (l.take j)).length _ (by rfl) (World.ownsRow.alloc (show W.ownsRow B 38 5 v1 (fastL (l.take j)).length (cellsI (fastL (l.take j))) from HJ.out.1) _) ⟨W.heap.size, 0, none⟩ 1 1 [.int .i64 ch, .int .i64 he, .int .i64 ti, .bool false, .bool false] (by rfl) (by rfl) (World.news_of_block (cs := #[.int .i64 ch, .int .i64 he, .int .i64 ti, .bool false, .bool false]) (t := 38) (fr := (0, 0)) (heap_alloc_new W _)) (by simp [Value.oneCell']) (by omega) HBS.out.1 HBS.out.2 (by rw [World.size_alloc]; exact Nat.le_succ_of_le HBW.out) (W.heap.size + 1) (by simp) ?_)
            intro gg cap' w8 hown hgrow hat _
            have HJ9 : Hid (RwJ 38 B w (fastL (l.take (j + 1))) (.slice (some ⟨gg, 0, none⟩) ((fastL (l.take j)).length + 1) cap') w8) := Lib.hid (by rw [HE9.out]; exact HJ.out.next (x := ⟨ch, he, ti, false, false⟩) HB.out (keptNew W _) hown hgrow)
            clear HE9 HJ hown hgrow hat c1 c2 c3 c4 c5 HBS
            go_wp2_with fail
            go_roundw
            case rel => exact ⟨j + 1, _, _, rfl, rfl, by omega, by go_num, HJ9⟩
            case measure => first | exact meas16 hlt hmI | exact meas17 hlt
      · have t0 : (ti == 1) = false := by rw [beq_eq_false_iff_ne]; exact ht
        have hs : fast16 ⟨ch, he, ti, pn, bu⟩ = false := by unfold fast16; simp [ht]
        have HJ9 : Hid (RwJ 38 B w (fastL (l.take (j + 1))) v1 W) := Lib.hid (by rw [HF.out, if_neg (by rw [hs]; decide)]; exact HJ.out)
        clear hs HF ht HJ
        go_wp2_with fail
        go_roundw
        case rel => exact ⟨j + 1, _, _, rfl, rfl, by omega, by go_num, HJ9⟩
        case measure => first | exact meas16 hlt hmI | exact meas17 hlt
    · have d1 : ¬ (j : Int) < (m : Int) := by omega
      obtain rfl : j = m := by omega
      have htk : l.take j = l := List.take_of_length_le (by rw [HM.out]; omega)
      have hU := HJ.out
      rw [htk] at hU
      obtain ⟨a2, c2, e2⟩ := hU.1.shape
      subst e2
      have is2 := hU.1.is (fun x hx => H.out.good x (List.mem_filter.1 hx).1)
      have hl2 : (fastL l).length ≤ 1000 := Nat.le_trans (List.length_filter_le _ _) (by have := HM.out; omega)
      have hRR : R = (pk (atL (leastL (fastL l)) (fastL l)) n).ch := HR.out.symm
      have HKW := Lib.hid hU.2
      clear HJ htk hU
      obtain ⟨C, hC⟩ : ∃ C, fastL l = C := ⟨_, rfl⟩
      rw [hC] at is2 hl2 hRR ⊢
      have HRR := Lib.hid hRR
      have HI2 := Lib.hid is2
      have HL2 := Lib.hid hl2
      clear hC hRR is2 hl2
      go_wp2_with fail
      go_loopw [7] (fun o wr => ∃ (k : Nat) (X : World), X = wr ∧ k ≤ 8 ∧ o = .int .i64 (k : Int) ∧ Hid ((∀ i, i < k → atL i C = []) ∧ KeptIn (· < W.heap.size) W X)) (fun o _ => 8 - (intOf o).toNat)
      case atStart => exact ⟨0, _, rfl, by omega, rfl, Lib.hid ⟨fun i h1 => absurd h1 (by omega), KeptIn.refl _ _⟩⟩
      case round =>
        obtain ⟨k, X, rfl, hk8, rfl, HQ⟩ := hrel
        by_cases hk2 : k ≤ 7
        · have z1 : (k : Int) ≤ (7 : Int) := by omega
          have CL := Lib.hid (r16level k a2 c2 C X (HI2.out.old HQ.out.2) HL2.out)
          go_wp2_with fail
          refine CL.out.mono ?_
          rintro e X2 ⟨a3, c3, rfl, hr3, hk3⟩
          have hg3 : ∀ x ∈ atL k C, GdI x := fun x hx => HI2.out.good x (atL_sub _ _ x hx)
          have is3 := hr3.is hg3
          have ll3 : (atL k C).length ≤ 1000 := Nat.le_trans (List.length_filter_le _ _) HL2.out
          have HQ3 := Lib.hid (HQ.out.2.on16 hk3)
          have CP := Lib.hid (r16pick a3 c3 (atL k C) n X2 is3 ll3)
          by_cases hne : atL k C = []
          · obtain ⟨i1, i2⟩ := lv_up9 k (by omega)
            obtain ⟨k2, hk9⟩ : ∃ k2, k + 1 = k2 := ⟨_, rfl⟩
            rw [hk9] at i1 i2
            have HQ4 : Hid ((∀ i, i < k2 → atL i C = []) ∧ KeptIn (· < W.heap.size) W X2) := Lib.hid ⟨fun i h1 => by
              by_cases e : i = k
              · rw [e]; exact hne
              · exact HQ.out.1 i (by omega), HQ3.out⟩
            rw [hne]
            clear hr3 hk3 hg3 is3 ll3 HQ HQ3 CP CL hne
            go_wp2_with fail
            go_roundw
            case rel => exact ⟨k2, _, rfl, by omega, by first | rfl | rw [i1] | rw [i2], HQ4⟩
            case measure => first | (rw [i1]; simp only [intOf]; omega) | (simp only [intOf]; omega)
          · have hR : R = (pk (atL k C) n).ch := by rw [HRR.out, least_at hk2 HQ.out.1 hne]
            have hpos : 0 < (atL k C).length := List.length_pos_iff.2 hne
            rw [← hR] at CP
            obtain ⟨m3, hm3⟩ : ∃ m3, (atL k C).length = m3 := ⟨_, rfl⟩
            rw [hm3] at CP hpos ⊢
            have z2 : (0 : Int) < (m3 : Int) := by omega
            have HE : Hid (KeptIn (· < w.heap.size) w X2) := Lib.hid (by rw [HB.out]; exact HKW.out.trans (HQ3.out.mono fun k hk => by have := HKW.out.size; have := HB.out; omega))
            clear hr3 hk3 hg3 is3 ll3 HQ HQ3 CL hne hR hm3
            go_wp2_with fail
            refine CP.out.mono ?_
            rintro e _ ⟨rfl, rfl⟩
            clear CP
            go_wp2_with fail
            go_ret
            exact ⟨rfl, HE.out⟩
        · have z1 : ¬ (k : Int) ≤ (7 : Int) := by omega
          obtain rfl : k = 8 := by omega
          have hR : R = 0 := by
            rw [HRR.out, least_none (fun i h2 => HQ.out.1 i (by omega))]
            rfl
          subst hR
          have HE : Hid (KeptIn (· < w.heap.size) w X) := Lib.hid (by rw [HB.out]; exact HKW.out.trans (HQ.out.2.mono fun k hk => by have := HKW.out.size; have := HB.out; omega))
          clear HQ
          go_wp2_with fail
          go_ret
          exact ⟨rfl, HE.out⟩

end Go.Proofs.Ytjhmcfhbjfjmkaa
