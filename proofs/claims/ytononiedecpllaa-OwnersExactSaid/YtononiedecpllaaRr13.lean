/- The document's rows of chunks and owners: Remove, Add. -/
import Derived.Test.YtononiedecpllaaRq13
set_option linter.unusedVariables false
namespace Go.Proofs.Ytononiedecpllaa
open Go.RowKit


set_option maxHeartbeats 1000000 in
set_option maxRecDepth 100000 in
theorem rRem (a : Option Addr) (cap : Nat) (l : List On) (x : On) (B0 : Nat) (w : World) (h : RowN w B0 (.slice a l.length cap) l) (hl : l.length ≤ 1000) :
    Calls Try.prog 12 #[.slice a l.length cap, onV x] w (NewN w (remN l x)) := by
  obtain ⟨V0, hV⟩ : ∃ W, w.alloc (.cells #[.int .i64 x.ch, .int .i64 x.ow.vol, .int .i64 x.ow.bir, .int .i64 x.ow.pos] 35) = W := ⟨_, rfl⟩
  have hb : BoxN w.heap.size x V0 := by rw [← hV]; exact BoxN.new w x
  have hk : KeptIn (· < w.heap.size) w V0 := by rw [← hV]; exact (KeptIn.refl _ w).alloc (fun _ h => h) _
  obtain ⟨n, hn⟩ : ∃ n, l.length = n := ⟨_, rfl⟩
  obtain ⟨B, hB⟩ : ∃ B, V0.heap.size = B := ⟨_, rfl⟩
  obtain ⟨W0, hW⟩ : ∃ W, V0.alloc (.cells #[] 35) = W := ⟨_, rfl⟩
  obtain ⟨bx, hbx⟩ : ∃ bx, w.heap.size = bx := ⟨_, rfl⟩
  have h0 := EnJ.zero V0
  rw [hW, hB] at h0
  have h' := h.old hk
  rw [hbx] at hb
  rw [hn] at h' hl ⊢
  have m0 : (n : Int) ≤ 1000 := by omega
  have H := Lib.hid h'
  have HN := Lib.hid hn
  have HW := Lib.hid (And.intro hW hB)
  have HV := Lib.hid (And.intro hV hbx)
  have HK := Lib.hid (And.intro hk hb)
  obtain ⟨ii, hii, hz0, hz1, hz2⟩ := info_parts infoOn
  have HJ0 : Hid (EnJ B V0 (remN (l.take 0) x) (.slice (some ⟨B, 0, none⟩) 0 0) W0) := Lib.hid h0
  have HE := Lib.hid fun (y : On) (V : World) => neqOn y x V
  clear h h' hn hW hB h0 hV hb hk hl hbx
  unfold onV at *
  go_enter Try.func12, Try.ntmps12
  go_upto_region 1 with fail
  rw [HV.out.1, HV.out.2]
  go_upto_region 2 with fail
  rw [HW.out.1, HW.out.2]
  go_wp2_with fail
  go_loopw [5, 6] (fun v i wr => ∃ (j : Nat) (W : World) (v0 : Value), W = wr ∧ v0 = v ∧ j ≤ n ∧ i = .int .i64 (j : Int) ∧ Hid (EnJ B V0 (remN (l.take j) x) v0 W)) (fun _ i _ => n - (RowKit.intOf i).toNat)
  case atStart => exact ⟨0, _, _, rfl, rfl, Nat.zero_le _, rfl, HJ0⟩
  case round =>
    obtain ⟨j, W, v0, rfl, rfl, hj, rfl, HJ⟩ := hrel
    clear HJ0
    by_cases hlt : j < n
    · have d0 : (0 : Int) ≤ (j : Int) := by omega
      have d1 : (j : Int) < (n : Int) := by omega
      obtain ⟨y, hy⟩ : ∃ y, l[j]? = some y := ⟨_, List.getElem?_eq_getElem (by rw [HN.out]; exact hlt)⟩
      obtain ⟨W2, hW2⟩ : ∃ W2, W.drew = W2 := ⟨_, rfl⟩
      have HW2 := Lib.hid hW2
      have HJd := Lib.hid (HJ.out.old (W' := W2) (by have := HJ.out.2.size; rw [HW.out.2] at this; exact this) (by rw [← hW2]; exact (KeptIn.refl _ W).drew))
      have hBW : B ≤ W2.heap.size := by have := HJd.out.2.size; rw [HW.out.2] at this; exact this
      have hkw := HJ.out.2
      have hkd := HJd.out.2
      rw [← HW.out.2] at hkw hkd
      obtain ⟨g, rfl, hg, c0, c1, c2, c3⟩ := (H.out.old hkw).at hy
      obtain ⟨g', e', -, e0, e1, e2, e3⟩ := (H.out.old hkd).at hy
      cases e'
      obtain ⟨q0, q1, q2, q3⟩ := (HK.out.2.old hkw).cells
      have hnx := remN_take (x := x) hy
      obtain ⟨m, hm⟩ : ∃ m, (remN (l.take j) x).length = m := ⟨_, rfl⟩
      have hmb : m ≤ 1000 := by
        have h1 := remN_length (l.take j) x
        rw [List.length_take] at h1
        omega
      have hrow : W2.ownsRow B 35 4 v0 m (cellsN (remN (l.take j) x)) := by rw [← hm]; exact HJd.out.1
      have HRW := Lib.hid hrow
      have HM := Lib.hid hm
      obtain ⟨hb1, _, hb3⟩ := en_bnd hmb
      have E := HE.out y
      clear hkw hkd hy hg hm hmb hrow hW2
      by_cases he : y = x
      · rw [decide_eq_true he] at E
        rw [if_pos he, List.append_nil] at hnx
        have HJ2 : Hid (EnJ B V0 (remN (l.take (j + 1)) x) v0 W2) := Lib.hid (by rw [hnx]; exact HJd.out)
        clear hnx HJ HJd hb1 hb3 HRW he e0 e1 e2 e3
        go_wp2_with fail
        go_region
        rw [HW2.out]
        go_wp2_with fail
        go_roundw
        case rel => exact ⟨j + 1, _, _, rfl, rfl, by omega, by go_num, HJ2⟩
        case measure => simp only [RowKit.intOf]; omega
      · rw [decide_eq_false he] at E
        rw [if_neg he] at hnx
        have HNX := Lib.hid hnx
        clear hnx he
        go_wp2_with fail
        go_region
        rw [HW2.out]
        go_wp2_with (first
          | (at_builtin; refine wpList_append_own _ rfl _ _ 27 rfl B 35 ii _ 4 32 Try.underlying27 hii hz0 hz1 hz2 rfl (by decide) _ _ _ rfl (World.ownsRow.alloc HRW.out _) ⟨W2.heap.size, 0, none⟩ 1 1 [.int .i64 y.ch, .int .i64 y.ow.vol, .int .i64 y.ow.bir, .int .i64 y.ow.pos] rfl rfl (World.news_of_block (cs := #[.int .i64 y.ch, .int .i64 y.ow.vol, .int .i64 y.ow.bir, .int .i64 y.ow.pos]) (t := 35) (fr := (0, 0)) (heap_alloc_new W2 _)) (by simp [Value.oneCell']) hb1 hb3 (by rw [World.size_alloc]; exact Nat.le_succ_of_le hBW) ?_)
          )
        intro v' w8 hown hgrow _
        have HJ2 : Hid (EnJ B V0 (remN (l.take (j + 1)) x) v' w8) := Lib.hid (by
          rw [HNX.out]
          exact HJd.out.next (o := y) HW.out.2 (by rw [HM.out]; exact hown) hgrow)
        clear hown hgrow HJ HJd hb1 hb3 c0 c1 c2 c3 HRW e0 e1 e2 e3
        go_wp2_with fail
        go_roundw
        case rel => exact ⟨j + 1, _, _, rfl, rfl, by omega, by go_num, HJ2⟩
        case measure => simp only [RowKit.intOf]; omega
    · have d1 : ¬ (j : Int) < (n : Int) := by omega
      have HF := Lib.hid HJ.out
      rw [List.take_of_length_le (by rw [HN.out]; omega)] at HF
      clear HJ
      go_wp2_with fail
      go_ret
      refine ⟨_, rfl, HF.out.1.mono ?_, ?_⟩
      · rw [← HW.out.2]; exact HK.out.1.size
      · have hk2 := HF.out.2
        rw [← HW.out.2] at hk2
        exact HK.out.1.on hk2

end Go.Proofs.Ytononiedecpllaa
