/- 'those' over any test. -/
import Derived.Test.YtjhmcfhbjfjmkaaTh16
set_option linter.unusedVariables false
namespace Go.Proofs.Ytjhmcfhbjfjmkaa
open Go.RowKit

theorem take_snoc16 (l : List It16) (j : Nat) (h : j < l.length) : l.take (j + 1) = l.take j ++ [l[j]] := by
  rw [List.take_add_one, List.getElem?_eq_getElem h]; rfl
theorem filter_snoc16 (P : It16 → Bool) (l : List It16) (x : It16) : (l ++ [x]).filter P = if P x then l.filter P ++ [x] else l.filter P := by
  rw [List.filter_append]
  cases h : P x <;> simp [h]
theorem filter_le16 (P : It16 → Bool) (l : List It16) (j : Nat) : ((l.take j).filter P).length ≤ j := Nat.le_trans (List.length_filter_le _ _) (List.length_take_le _ _)


set_option maxHeartbeats 2000000 in
set_option maxRecDepth 100000 in
theorem rkThose (P : It16 → Bool) (k : Nat) (caps : Array Value) (hk : (k = 25 ∧ caps = #[]) ∨ (k = 26 ∧ caps = #[]) ∨ (k = 29 ∧ caps = #[]) ∨ ∃ c, k = 30 ∧ caps = #[.pointer (some ⟨c, 0, none⟩)]) (a : Option Addr) (cap : Nat) (l : List It16) (w : World) (h : IsI w a l) (hl : l.length ≤ 1000)
    (hf : ∀ x, GdI x → ∀ V, KeptIn (· < w.heap.size) w V → Calls Try.prog k (#[itV x] ++ caps) V (TsS V (P x))) :
    Calls Try.prog 24 #[.slice a l.length cap, .func (.func k) #[] caps] w (RwS 35 w (l.filter P)) := by
  obtain ⟨n, hn⟩ : ∃ n, l.length = n := ⟨_, rfl⟩
  have hnI : (n : Int) ≤ 1000 := by omega
  have H := Lib.hid h
  have HN := Lib.hid hn
  have HF := Lib.hid hf
  have HK := Lib.hid hk
  rw [hn]
  obtain ⟨B, hB⟩ : ∃ B, w.heap.size = B := ⟨_, rfl⟩
  have HB := Lib.hid hB
  have HJ0 : Hid (RwJ 35 B w ((l.take 0).filter P) (.slice none 0 0) w) := Lib.hid ⟨RowI.nil _ _ _, KeptIn.refl _ w⟩
  obtain ⟨ii, hii, hz0, hz1, hz2⟩ := info_parts infoIt
  clear h hn hl hf hB hk
  go_enter Try.func24, Try.ntmps24
  go_wp2_with fail
  go_loopw [5, 10] (fun v i wr => ∃ (j : Nat) (W : World) (v0 : Value), W = wr ∧ v0 = v ∧ j ≤ n ∧ i = .int .i64 (j : Int) ∧ Hid (RwJ 35 B w ((l.take j).filter P) v0 W)) (fun _ i _ => n - (intOf i).toNat)
  case atStart => exact ⟨0, _, _, rfl, rfl, Nat.zero_le _, rfl, HJ0⟩
  case round =>
    obtain ⟨j, W, v0, rfl, rfl, hj, rfl, HJ⟩ := hrel
    clear HJ0
    by_cases hlt : j < n
    · have d0 : (0 : Int) ≤ (j : Int) := by omega
      have d1 : (j : Int) < (n : Int) := by omega
      have hjl : j < l.length := by rw [HN.out]; exact hlt
      obtain ⟨b, off, rfl, hb, hc⟩ := (H.out.old (HJ.out.2.mono fun k hk => by rw [← HB.out]; exact hk)).cells (by omega)
      have hcj := hc j hjl
      have hgx := H.out.good l[j] (List.getElem_mem hjl)
      have HT := Lib.hid (take_snoc16 l j hjl)
      obtain ⟨x, hx⟩ : ∃ x, l[j] = x := ⟨_, rfl⟩
      rw [hx] at hcj hgx HT
      obtain ⟨c1, c2, c3, c4, c5⟩ := hcj
      clear hc hb hjl hx
      have hko := keptNew W (.cells #[.int .i64 x.ch, .int .i64 x.he, .int .i64 x.ti, .bool x.pn, .bool x.bu] 35)
      have hnew := At16.new W x 35
      have C := HF.out x hgx (W.alloc (.cells #[.int .i64 x.ch, .int .i64 x.he, .int .i64 x.ti, .bool x.pn, .bool x.bu] 35)) (by rw [HB.out]; exact HJ.out.2.trans (hko.mono fun k hk => by have := HJ.out.2.size; rw [HB.out] at this; omega))
      have hBW : B ≤ W.heap.size := by have := HJ.out.2.size; rw [HB.out] at this; exact this
      obtain ⟨W1, hW1⟩ : ∃ W1, W.alloc (.cells #[.int .i64 x.ch, .int .i64 x.he, .int .i64 x.ti, .bool x.pn, .bool x.bu] 35) = W1 := ⟨_, rfl⟩
      obtain ⟨g, hg⟩ : ∃ g, W.heap.size = g := ⟨_, rfl⟩
      rw [hW1] at hko hnew C
      rw [hg] at hnew hBW
      have HW := Lib.hid hW1
      have HG := Lib.hid hg
      have HN1 := Lib.hid (And.intro hnew (And.intro hko hBW))
      have HX := Lib.hid hgx
      have HFX := filter_snoc16 P (l.take j) x
      rw [← HT.out] at HFX
      have HY := Lib.hid HFX
      have HZ := Lib.hid (filter_le16 P l j)
      clear hnew hko hBW hW1 hg hgx HFX
      unfold itV at C
      have HC := Lib.hid C
      clear C HF
      go_wp2_with fail
      rw [HW.out]
      simp only [HG.out]
      rcases HK.out with ⟨rfl, rfl⟩ | ⟨rfl, rfl⟩ | ⟨rfl, rfl⟩ | ⟨c, rfl, rfl⟩
      · go_wp2_with fail
        refine HC.out.mono ?_
        rintro e W2 ⟨rfl, hk2⟩
        have hg2 : g < W1.heap.size := by rw [← HW.out, World.size_alloc, HG.out]; exact Nat.lt_succ_self g
        obtain ⟨m1, m2, m3, m4, m5⟩ := HN1.out.1.kept (hk2.block g hg2)
        simp only [Nat.zero_add] at m2 m3 m4 m5
        have hkW : KeptIn (· < W.heap.size) W W2 := HN1.out.2.1.trans (hk2.mono fun k hk => by have := HN1.out.2.1.size; omega)
        have hJ2 := HJ.out.old HB.out hkW
        have hB2 : B ≤ W2.heap.size := by have := hJ2.2.size; rw [HB.out] at this; exact this
        have HJ2 := Lib.hid hJ2
        have HB2 := Lib.hid hB2
        obtain ⟨hb1, hb2⟩ := it_bnd ((l.take j).filter P).length (by have := HZ.out; omega)
        clear HC HN1 hk2 hg2 hkW hJ2 hB2 HJ c1 c2 c3 c4 c5 HW HG
        cases hP : P x with
        | true =>
          have HP := Lib.hid hP
          clear hP
          go_wp2_with (at_builtin; refine wpList_append_own _ rfl _ _ 22 rfl B 35 ii _ 5 32 Try.underlying22 hii hz0 hz1 hz2 rfl (by decide) _ _ _ rfl (World.ownsRow.alloc (show W2.ownsRow B 35 5 v0 ((l.take j).filter P).length (cellsI ((l.take j).filter P)) from HJ2.out.1) _) ⟨W2.heap.size, 0, none⟩ 1 1 [.int .i64 x.ch, .int .i64 x.he, .int .i64 x.ti, .bool x.pn, .bool x.bu] rfl rfl (World.news_of_block (cs := #[.int .i64 x.ch, .int .i64 x.he, .int .i64 x.ti, .bool x.pn, .bool x.bu]) (t := 35) (fr := (0, 0)) (heap_alloc_new W2 _)) (by simp [Value.oneCell']) hb1 hb2 (by rw [World.size_alloc]; exact Nat.le_succ_of_le HB2.out) ?_)
          intro v' w8 hown hgrow _
          have HJ3 : Hid (RwJ 35 B w ((l.take (j + 1)).filter P) v' w8) := Lib.hid (by rw [HY.out, if_pos HP.out]; exact HJ2.out.next HB.out (keptNew W2 _) hown hgrow)
          clear hown hgrow HJ2 hb1 hb2 m1 m2 m3 m4 m5
          go_wp2_with fail
          go_roundw
          case rel => exact ⟨j + 1, _, _, rfl, rfl, by omega, by go_num, HJ3⟩
          case measure => simp only [intOf]; omega
        | false =>
          have HJ3 : Hid (RwJ 35 B w ((l.take (j + 1)).filter P) v0 W2) := Lib.hid (by rw [HY.out, if_neg (by rw [hP]; decide)]; exact HJ2.out)
          clear hP HJ2 hb1 hb2 m1 m2 m3 m4 m5
          go_wp2_with fail
          go_roundw
          case rel => exact ⟨j + 1, _, _, rfl, rfl, by omega, by go_num, HJ3⟩
          case measure => simp only [intOf]; omega
      · go_wp2_with fail
        refine HC.out.mono ?_
        rintro e W2 ⟨rfl, hk2⟩
        have hg2 : g < W1.heap.size := by rw [← HW.out, World.size_alloc, HG.out]; exact Nat.lt_succ_self g
        obtain ⟨m1, m2, m3, m4, m5⟩ := HN1.out.1.kept (hk2.block g hg2)
        simp only [Nat.zero_add] at m2 m3 m4 m5
        have hkW : KeptIn (· < W.heap.size) W W2 := HN1.out.2.1.trans (hk2.mono fun k hk => by have := HN1.out.2.1.size; omega)
        have hJ2 := HJ.out.old HB.out hkW
        have hB2 : B ≤ W2.heap.size := by have := hJ2.2.size; rw [HB.out] at this; exact this
        have HJ2 := Lib.hid hJ2
        have HB2 := Lib.hid hB2
        obtain ⟨hb1, hb2⟩ := it_bnd ((l.take j).filter P).length (by have := HZ.out; omega)
        clear HC HN1 hk2 hg2 hkW hJ2 hB2 HJ c1 c2 c3 c4 c5 HW HG
        cases hP : P x with
        | true =>
          have HP := Lib.hid hP
          clear hP
          go_wp2_with (at_builtin; refine wpList_append_own _ rfl _ _ 22 rfl B 35 ii _ 5 32 Try.underlying22 hii hz0 hz1 hz2 rfl (by decide) _ _ _ rfl (World.ownsRow.alloc (show W2.ownsRow B 35 5 v0 ((l.take j).filter P).length (cellsI ((l.take j).filter P)) from HJ2.out.1) _) ⟨W2.heap.size, 0, none⟩ 1 1 [.int .i64 x.ch, .int .i64 x.he, .int .i64 x.ti, .bool x.pn, .bool x.bu] rfl rfl (World.news_of_block (cs := #[.int .i64 x.ch, .int .i64 x.he, .int .i64 x.ti, .bool x.pn, .bool x.bu]) (t := 35) (fr := (0, 0)) (heap_alloc_new W2 _)) (by simp [Value.oneCell']) hb1 hb2 (by rw [World.size_alloc]; exact Nat.le_succ_of_le HB2.out) ?_)
          intro v' w8 hown hgrow _
          have HJ3 : Hid (RwJ 35 B w ((l.take (j + 1)).filter P) v' w8) := Lib.hid (by rw [HY.out, if_pos HP.out]; exact HJ2.out.next HB.out (keptNew W2 _) hown hgrow)
          clear hown hgrow HJ2 hb1 hb2 m1 m2 m3 m4 m5
          go_wp2_with fail
          go_roundw
          case rel => exact ⟨j + 1, _, _, rfl, rfl, by omega, by go_num, HJ3⟩
          case measure => simp only [intOf]; omega
        | false =>
          have HJ3 : Hid (RwJ 35 B w ((l.take (j + 1)).filter P) v0 W2) := Lib.hid (by rw [HY.out, if_neg (by rw [hP]; decide)]; exact HJ2.out)
          clear hP HJ2 hb1 hb2 m1 m2 m3 m4 m5
          go_wp2_with fail
          go_roundw
          case rel => exact ⟨j + 1, _, _, rfl, rfl, by omega, by go_num, HJ3⟩
          case measure => simp only [intOf]; omega
      · go_wp2_with fail
        refine HC.out.mono ?_
        rintro e W2 ⟨rfl, hk2⟩
        have hg2 : g < W1.heap.size := by rw [← HW.out, World.size_alloc, HG.out]; exact Nat.lt_succ_self g
        obtain ⟨m1, m2, m3, m4, m5⟩ := HN1.out.1.kept (hk2.block g hg2)
        simp only [Nat.zero_add] at m2 m3 m4 m5
        have hkW : KeptIn (· < W.heap.size) W W2 := HN1.out.2.1.trans (hk2.mono fun k hk => by have := HN1.out.2.1.size; omega)
        have hJ2 := HJ.out.old HB.out hkW
        have hB2 : B ≤ W2.heap.size := by have := hJ2.2.size; rw [HB.out] at this; exact this
        have HJ2 := Lib.hid hJ2
        have HB2 := Lib.hid hB2
        obtain ⟨hb1, hb2⟩ := it_bnd ((l.take j).filter P).length (by have := HZ.out; omega)
        clear HC HN1 hk2 hg2 hkW hJ2 hB2 HJ c1 c2 c3 c4 c5 HW HG
        cases hP : P x with
        | true =>
          have HP := Lib.hid hP
          clear hP
          go_wp2_with (at_builtin; refine wpList_append_own _ rfl _ _ 22 rfl B 35 ii _ 5 32 Try.underlying22 hii hz0 hz1 hz2 rfl (by decide) _ _ _ rfl (World.ownsRow.alloc (show W2.ownsRow B 35 5 v0 ((l.take j).filter P).length (cellsI ((l.take j).filter P)) from HJ2.out.1) _) ⟨W2.heap.size, 0, none⟩ 1 1 [.int .i64 x.ch, .int .i64 x.he, .int .i64 x.ti, .bool x.pn, .bool x.bu] rfl rfl (World.news_of_block (cs := #[.int .i64 x.ch, .int .i64 x.he, .int .i64 x.ti, .bool x.pn, .bool x.bu]) (t := 35) (fr := (0, 0)) (heap_alloc_new W2 _)) (by simp [Value.oneCell']) hb1 hb2 (by rw [World.size_alloc]; exact Nat.le_succ_of_le HB2.out) ?_)
          intro v' w8 hown hgrow _
          have HJ3 : Hid (RwJ 35 B w ((l.take (j + 1)).filter P) v' w8) := Lib.hid (by rw [HY.out, if_pos HP.out]; exact HJ2.out.next HB.out (keptNew W2 _) hown hgrow)
          clear hown hgrow HJ2 hb1 hb2 m1 m2 m3 m4 m5
          go_wp2_with fail
          go_roundw
          case rel => exact ⟨j + 1, _, _, rfl, rfl, by omega, by go_num, HJ3⟩
          case measure => simp only [intOf]; omega
        | false =>
          have HJ3 : Hid (RwJ 35 B w ((l.take (j + 1)).filter P) v0 W2) := Lib.hid (by rw [HY.out, if_neg (by rw [hP]; decide)]; exact HJ2.out)
          clear hP HJ2 hb1 hb2 m1 m2 m3 m4 m5
          go_wp2_with fail
          go_roundw
          case rel => exact ⟨j + 1, _, _, rfl, rfl, by omega, by go_num, HJ3⟩
          case measure => simp only [intOf]; omega
      · go_wp2_with fail
        refine HC.out.mono ?_
        rintro e W2 ⟨rfl, hk2⟩
        have hg2 : g < W1.heap.size := by rw [← HW.out, World.size_alloc, HG.out]; exact Nat.lt_succ_self g
        obtain ⟨m1, m2, m3, m4, m5⟩ := HN1.out.1.kept (hk2.block g hg2)
        simp only [Nat.zero_add] at m2 m3 m4 m5
        have hkW : KeptIn (· < W.heap.size) W W2 := HN1.out.2.1.trans (hk2.mono fun k hk => by have := HN1.out.2.1.size; omega)
        have hJ2 := HJ.out.old HB.out hkW
        have hB2 : B ≤ W2.heap.size := by have := hJ2.2.size; rw [HB.out] at this; exact this
        have HJ2 := Lib.hid hJ2
        have HB2 := Lib.hid hB2
        obtain ⟨hb1, hb2⟩ := it_bnd ((l.take j).filter P).length (by have := HZ.out; omega)
        clear HC HN1 hk2 hg2 hkW hJ2 hB2 HJ c1 c2 c3 c4 c5 HW HG
        cases hP : P x with
        | true =>
          have HP := Lib.hid hP
          clear hP
          go_wp2_with (at_builtin; refine wpList_append_own _ rfl _ _ 22 rfl B 35 ii _ 5 32 Try.underlying22 hii hz0 hz1 hz2 rfl (by decide) _ _ _ rfl (World.ownsRow.alloc (show W2.ownsRow B 35 5 v0 ((l.take j).filter P).length (cellsI ((l.take j).filter P)) from HJ2.out.1) _) ⟨W2.heap.size, 0, none⟩ 1 1 [.int .i64 x.ch, .int .i64 x.he, .int .i64 x.ti, .bool x.pn, .bool x.bu] rfl rfl (World.news_of_block (cs := #[.int .i64 x.ch, .int .i64 x.he, .int .i64 x.ti, .bool x.pn, .bool x.bu]) (t := 35) (fr := (0, 0)) (heap_alloc_new W2 _)) (by simp [Value.oneCell']) hb1 hb2 (by rw [World.size_alloc]; exact Nat.le_succ_of_le HB2.out) ?_)
          intro v' w8 hown hgrow _
          have HJ3 : Hid (RwJ 35 B w ((l.take (j + 1)).filter P) v' w8) := Lib.hid (by rw [HY.out, if_pos HP.out]; exact HJ2.out.next HB.out (keptNew W2 _) hown hgrow)
          clear hown hgrow HJ2 hb1 hb2 m1 m2 m3 m4 m5
          go_wp2_with fail
          go_roundw
          case rel => exact ⟨j + 1, _, _, rfl, rfl, by omega, by go_num, HJ3⟩
          case measure => simp only [intOf]; omega
        | false =>
          have HJ3 : Hid (RwJ 35 B w ((l.take (j + 1)).filter P) v0 W2) := Lib.hid (by rw [HY.out, if_neg (by rw [hP]; decide)]; exact HJ2.out)
          clear hP HJ2 hb1 hb2 m1 m2 m3 m4 m5
          go_wp2_with fail
          go_roundw
          case rel => exact ⟨j + 1, _, _, rfl, rfl, by omega, by go_num, HJ3⟩
          case measure => simp only [intOf]; omega
    · have d1 : ¬ (j : Int) < (n : Int) := by omega
      obtain rfl : j = n := by omega
      have htk : l.take j = l := List.take_of_length_le (by rw [HN.out]; omega)
      have hE := HJ.out
      rw [htk] at hE
      have HE : Hid (RwS 35 w (l.filter P) (.returned v0) W) := Lib.hid (by
        obtain ⟨a1, c1, e1⟩ := hE.1.shape
        subst e1
        exact ⟨a1, c1, rfl, by rw [HB.out]; exact hE.1, by rw [HB.out]; exact hE.2⟩)
      clear HJ hE htk
      go_wp2_with fail
      go_ret
      exact HE.out

end Go.Proofs.Ytjhmcfhbjfjmkaa
