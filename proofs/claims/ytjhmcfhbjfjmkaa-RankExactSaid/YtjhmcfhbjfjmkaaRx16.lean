/- The document's levels and picks (tierceref16): level, pick, of. -/
import Derived.Test.YtjhmcfhbjfjmkaaFo16
set_option linter.unusedVariables false
namespace Go.Proofs.Ytjhmcfhbjfjmkaa
open Go.RowKit

set_option maxHeartbeats 2000000 in
set_option maxRecDepth 100000 in
theorem r16level (k : Nat) (a : Option Addr) (cap : Nat) (l : List It16) (w : World) (h : IsI w a l) (hl : l.length ≤ 1000) :
    Calls Try.prog 21 #[.slice a l.length cap, .int .i64 (k : Int)] w (RwS 38 w (atL k l)) := by
  obtain ⟨n, hn⟩ : ∃ n, l.length = n := ⟨_, rfl⟩
  have hnI : (n : Int) ≤ 1000 := by omega
  have H := Lib.hid h
  have HN := Lib.hid hn
  rw [hn]
  have hS := RwJ.start 38 w
  obtain ⟨W0, hW0⟩ : ∃ W0, w.alloc (.cells #[] 38) = W0 := ⟨_, rfl⟩
  obtain ⟨B, hB⟩ : ∃ B, w.heap.size = B := ⟨_, rfl⟩
  rw [hW0, hB] at hS
  have HW := Lib.hid hW0
  have HB := Lib.hid hB
  have HJ0 : Hid (RwJ 38 B w (atL k (l.take 0)) (.slice (some ⟨B, 0, none⟩) 0 0) W0) := Lib.hid hS
  obtain ⟨ii, hii, hz0, hz1, hz2⟩ := info_parts infoIt16
  clear h hn hl hB hW0 hS
  go_enter Try.func21, Try.ntmps21
  go_wp2_with fail
  rw [HW.out]
  simp only [HB.out]
  go_loopw [5, 6] (fun v i wr => ∃ (j : Nat) (W : World) (v0 : Value), W = wr ∧ v0 = v ∧ j ≤ n ∧ i = .int .i64 (j : Int) ∧ Hid (RwJ 38 B w (atL k (l.take j)) v0 W)) (fun _ i _ => n - (intOf i).toNat)
  case atStart => exact ⟨0, _, _, rfl, rfl, Nat.zero_le _, rfl, HJ0⟩
  case round =>
    obtain ⟨j, W, v0, rfl, rfl, hj, rfl, HJ⟩ := hrel
    clear HJ0 HW
    by_cases hlt : j < n
    · have d0 : (0 : Int) ≤ (j : Int) := by omega
      have d1 : (j : Int) < (n : Int) := by omega
      have hjl : j < l.length := by rw [HN.out]; exact hlt
      obtain ⟨b, off, rfl, hb, hc⟩ := (H.out.old (HJ.out.2.mono fun k hk => by rw [← HB.out]; exact hk)).cells (by omega)
      have hcj := hc j hjl
      have hT := take_snoc16 l j hjl
      obtain ⟨x, hx⟩ : ∃ x, l[j] = x := ⟨_, rfl⟩
      rw [hx] at hcj hT
      obtain ⟨c1, c2, c3, c4, c5⟩ := hcj
      have HFX : atL k (l.take (j + 1)) = if (lv x.he == k) = true then atL k (l.take j) ++ [x] else atL k (l.take j) := by
        rw [hT]; exact filter_snoc16 (fun x => lv x.he == k) (l.take j) x
      have HY := Lib.hid HFX
      obtain ⟨hb1, hb2⟩ := it_bnd (atL k (l.take j)).length (by have := filter_le16 (fun x => lv x.he == k) l j; unfold atL; omega)
      have hBW : B ≤ W.heap.size := by have := HJ.out.2.size; rw [HB.out] at this; exact this
      have CL := Lib.hid (r16Level x.he W)
      obtain ⟨v, hv⟩ : ∃ v, lv x.he = v := ⟨_, rfl⟩
      rw [hv] at CL HY
      have HB2 := Lib.hid hBW
      clear hc hb hjl hx hT HFX hv hBW
      go_wp2_with fail
      refine CL.out.mono ?_
      rintro e W ⟨rfl, rfl⟩
      clear CL
      by_cases hvk : v = k
      · have z0 : ((v : Int) == (k : Int)) = true := by rw [beq_iff_eq]; omega
        have hz : (v == k) = true := by rw [beq_iff_eq]; exact hvk
        have HP := Lib.hid hz
        clear hz hvk
        go_wp2_with (at_builtin; refine wpList_append_own _ rfl _ _ 24 rfl B 38 ii _ 5 32 Try.underlying24 hii hz0 hz1 hz2 rfl (by decide) _ _ _ rfl (World.ownsRow.alloc (show W.ownsRow B 38 5 v0 (atL k (l.take j)).length (cellsI (atL k (l.take j))) from HJ.out.1) _) ⟨W.heap.size, 0, none⟩ 1 1 [.int .i64 x.ch, .int .i64 x.he, .int .i64 x.ti, .bool x.pn, .bool x.bu] rfl rfl (World.news_of_block (cs := #[.int .i64 x.ch, .int .i64 x.he, .int .i64 x.ti, .bool x.pn, .bool x.bu]) (t := 38) (fr := (0, 0)) (heap_alloc_new W _)) (by simp [Value.oneCell']) hb1 hb2 (by rw [World.size_alloc]; exact Nat.le_succ_of_le HB2.out) ?_)
        intro v' w8 hown hgrow _
        have HJ3 : Hid (RwJ 38 B w (atL k (l.take (j + 1))) v' w8) := Lib.hid (by rw [HY.out, if_pos HP.out]; exact HJ.out.next HB.out (keptNew W _) hown hgrow)
        clear hown hgrow HJ hb1 hb2 c1 c2 c3 c4 c5
        go_wp2_with fail
        go_roundw
        case rel => exact ⟨j + 1, _, _, rfl, rfl, by omega, by go_num, HJ3⟩
        case measure => simp only [intOf]; omega
      · have z0 : ((v : Int) == (k : Int)) = false := by rw [beq_eq_false_iff_ne]; omega
        have z1 : (v == k) = false := by rw [beq_eq_false_iff_ne]; exact hvk
        have HJ3 : Hid (RwJ 38 B w (atL k (l.take (j + 1))) v0 W) := Lib.hid (by rw [HY.out, if_neg (by rw [z1]; decide)]; exact HJ.out)
        clear HJ hb1 hb2 c1 c2 c3 c4 c5 hvk
        go_wp2_with fail
        go_roundw
        case rel => exact ⟨j + 1, _, _, rfl, rfl, by omega, by go_num, HJ3⟩
        case measure => simp only [intOf]; omega
    · have d1 : ¬ (j : Int) < (n : Int) := by omega
      obtain rfl : j = n := by omega
      have htk : l.take j = l := List.take_of_length_le (by rw [HN.out]; omega)
      have hE := HJ.out
      rw [htk] at hE
      have HE : Hid (RwS 38 w (atL k l) (.returned v0) W) := Lib.hid (by
        obtain ⟨a1, c1, e1⟩ := hE.1.shape
        subst e1
        exact ⟨a1, c1, rfl, by rw [HB.out]; exact hE.1, by rw [HB.out]; exact hE.2⟩)
      clear HJ hE htk
      go_wp2_with fail
      go_ret
      exact HE.out

set_option maxRecDepth 100000 in
theorem r16pick (a : Option Addr) (cap : Nat) (l : List It16) (n : Int) (w : World) (h : IsI w a l) (hl : l.length ≤ 1000) :
    Calls Try.prog 20 #[.slice a l.length cap, .int .i64 n] w fun e w' => e = .returned (.int .i64 (pk l n).ch) ∧ w' = w := by
  obtain ⟨m, hm⟩ : ∃ m, l.length = m := ⟨_, rfl⟩
  have H := Lib.hid h
  rw [hm] at hl ⊢
  by_cases h0 : m = 0
  · subst h0
    obtain rfl : l = [] := List.length_eq_zero_iff.1 hm
    rw [pk_nil]
    clear h hm hl H
    go_enter Try.func20, Try.ntmps20
    go_wp2_with fail
    go_ret
    exact ⟨rfl, rfl⟩
  · have hq := pk_walk n m (by omega) hl
    have hlt := Nat.mod_lt (n % 18446744073709551616).toNat (show 0 < m by omega)
    have hpk : pk l n = l.getD ((n % 18446744073709551616).toNat % m) it0 := by unfold pk; rw [hm]
    obtain ⟨q, hqq⟩ : ∃ q, (n % 18446744073709551616).toNat % m = q := ⟨_, rfl⟩
    rw [hqq] at hq hlt hpk
    have hql : q < l.length := by omega
    rw [List.getD_eq_getElem?_getD, List.getElem?_eq_getElem hql, Option.getD_some] at hpk
    obtain ⟨b, off, rfl, hb, hc⟩ := H.out.cells (by omega)
    have c1 := (hc q hql).ch
    rw [hpk]
    obtain ⟨x, hx⟩ : ∃ x, l[q].ch = x := ⟨_, rfl⟩
    rw [hx] at c1 ⊢
    have z0 : ((m : Int) == 0) = false := by rw [beq_eq_false_iff_ne]; omega
    have d0 : (0 : Int) ≤ (q : Int) := by omega
    have d1 : (q : Int) < (m : Int) := by omega
    have i1 : wrap64 (q : Int) = (q : Int) := by unfold wrap64; omega
    have i2 : IntKind.i64.wrap (q : Int) = (q : Int) := by rw [IntKind.wrap_i64]; omega
    have z1 : ¬ IntKind.u64.wrap (m : Int) = 0 := by rw [IntKind.wrap_u64]; omega
    have z2 : (IntKind.u64.wrap (m : Int) == 0) = false := by rw [beq_eq_false_iff_ne]; exact z1
    clear hc hb hx hpk hql hqq h hm hl h0 hlt H
    go_enter Try.func20, Try.ntmps20
    go_wp2_with fail
    go_ret
    exact ⟨rfl, rfl⟩

theorem results_item16 {fn : Func} {p : Tmp} (h : fn.results = #[.cell p 38]) (tmps : Array Value) (w : World) (y : Nat) (x : It16)
    (hp : tmps.getD p undef = .pointer (some ⟨y, 0, none⟩)) (hb : BoxI 38 y x w) : (results fn tmps).run Try.prog w = .ok (itV x) w := by
  have hr := run_loadVar_row (P := Try.prog) w y 38 38 _ _ _ hb Try.underlying38 rfl (by kernel_rfl)
  have hp' : tmps[p]?.getD undef = .pointer (some ⟨y, 0, none⟩) := by simpa using hp
  simp [results, h, hp', asAddr, hr, itV]

end Go.Proofs.Ytjhmcfhbjfjmkaa
