import Derived.Test.YtlnlgapjlekehaaRf8K
/- The reference of layer 8 (tierceref08): Put. -/
set_option linter.unusedVariables false
namespace Go.Proofs.Ytlnlgapjlekehaa
open Go.RowKit

/-- What stands in Put's loop. -/
def RpJ (B : Nat) (V : World) (xb key val : Nat) (out : Pairs) (v : Value) (W : World) : Prop := RfJ B V out v W ∧ W.cell? ⟨xb, 0, none⟩ = some (.int .u64 (key : Int)) ∧ W.cell? ⟨xb, 1, none⟩ = some (.int .u64 (val : Int))

theorem RpJ.next {B k x xb key val : Nat} {V W w8 : World} {out : Pairs} {v v' : Value} (h : RpJ B V xb key val out v W) (hx : xb < B) (hB : V.heap.size = B) (hown : w8.ownsRow B 38 2 v' (out.length + 1) (cellsP out ++ [.int .u64 (k : Int), .int .u64 (x : Int)]))
    (hgrow : (W.alloc (.cells #[.int .u64 (k : Int), .int .u64 (x : Int)] 38)).grownBy w8 v.ownBlock) : RpJ B V xb key val (out ++ [(k, x)]) v' w8 := by
  have h1 := h.1.next hB hown hgrow
  have e : w8.heap[xb]? = W.heap[xb]? := (h1.2.block xb hx).trans (h.1.2.block xb hx).symm
  exact ⟨h1, (World.cell?_of_block (a := ⟨xb, 0, none⟩) e).trans h.2.1, (World.cell?_of_block (a := ⟨xb, 1, none⟩) e).trans h.2.2⟩
theorem RpJ.drewN {B xb key val : Nat} {V W : World} {out : Pairs} {v : Value} (h : RpJ B V xb key val out v W) (n : Nat) : RpJ B V xb key val out v (W.drewN n) := ⟨⟨h.1.1, h.1.2.drewN n⟩, h.2.1, h.2.2⟩





theorem rf_bnd2 (j : Nat) (h : j ≤ 2000) : j + 1 ≤ maxLen ∧ (j + 1) * 16 ≤ 140737488355328 := by
  refine ⟨?_, by omega⟩
  unfold maxLen
  omega


set_option maxHeartbeats 8000000 in
set_option maxRecDepth 100000 in
theorem r8Put (a : Option Addr) (cap : Nat) (qs : Pairs) (key val : Nat) (w : World) (h : IsPs w a qs) (hs : Srt qs) (hl : qs.length ≤ 1000) :
    Calls Try.prog 9 #[.slice a qs.length cap, .agg #[.int .u64 (key : Int), .int .u64 (val : Int)]] w (RfS w (chg [(key, val)] key qs)) := by
  obtain ⟨n, hn⟩ : ∃ n, qs.length = n := ⟨_, rfl⟩
  have hnI : (n : Int) ≤ 1000 := by omega
  have HN := Lib.hid hn
  have HS := Lib.hid hs
  obtain ⟨R, hR⟩ : ∃ R, chg [(key, val)] key qs = R := ⟨_, rfl⟩
  have HR := Lib.hid hR
  rw [hn, hR]
  obtain ⟨W1, hW1⟩ : ∃ W1, w.alloc (.cells #[.int .u64 (key : Int), .int .u64 (val : Int)] 38) = W1 := ⟨_, rfl⟩
  have hk1 : KeptIn (· < w.heap.size) w W1 := by rw [← hW1]; exact (KeptIn.refl _ w).alloc (fun _ h => h) _
  have hbx : W1.heap[w.heap.size]? = some (.cells #[.int .u64 (key : Int), .int .u64 (val : Int)] 38 (0, 0)) := by rw [← hW1]; exact heap_alloc_new w _
  have hz1' : W1.heap.size = w.heap.size + 1 := by rw [← hW1]; simp
  have H00 := RfJ.start W1
  obtain ⟨W0, hW0⟩ : ∃ W0, W1.alloc (.cells #[] 38) = W0 := ⟨_, rfl⟩
  rw [hW0] at H00
  obtain ⟨xb, hxb⟩ : ∃ xb, w.heap.size = xb := ⟨_, rfl⟩
  obtain ⟨B, hB⟩ : ∃ B, W1.heap.size = B := ⟨_, rfl⟩
  rw [hB] at H00 hz1'
  rw [hxb] at hbx hz1'
  have hxB : xb < B := by omega
  have hb0 := (H00.2.block xb hxB).trans hbx
  have HJ0 : Hid (RpJ B W1 xb key val (outP key val (qs.take 0)) (.slice (some ⟨B, 0, none⟩) 0 0) W0) := Lib.hid ⟨H00, (cell_of_row _ _ 0 _ _ _ hb0).trans rfl, (cell_of_row _ _ 1 _ _ _ hb0).trans rfl⟩
  have H := Lib.hid (h.old hk1)
  have HW := Lib.hid (And.intro hW1 hW0)
  have HB := Lib.hid (And.intro hB (And.intro hxb (And.intro hz1' hk1)))
  obtain ⟨ii, hii, hz0, hz1, hz2⟩ := info_parts infoPair
  clear h hs hn hl hR hW1 hW0 hB hxb hbx hz1' hk1 H00 hb0
  go_enter Try.func9, Try.ntmps9
  go_wp2_with fail
  rw [HW.out.1, HW.out.2]
  simp only [HB.out.2.1]
  try simp only [← HB.out.2.2.1]
  go_loopw [5, 6, 7] (fun v d i wr => ∃ (j : Nat) (W : World) (v0 : Value), W = wr ∧ v0 = v ∧ j ≤ n ∧ i = .int .i64 (j : Int) ∧ d = .bool (dnP key (qs.take j)) ∧ Hid (RpJ B W1 xb key val (outP key val (qs.take j)) v0 W)) (fun _ _ i _ => n - (intOf i).toNat)
  case atStart => exact ⟨0, _, _, rfl, rfl, Nat.zero_le _, rfl, rfl, HJ0⟩
  case round =>
    obtain ⟨j, W, v0, rfl, rfl, hj, rfl, rfl, HJ⟩ := hrel
    clear HJ0
    by_cases hlt : j < n
    · have d0 : (0 : Int) ≤ (j : Int) := by omega
      have d1 : (j : Int) < (n : Int) := by omega
      have hjl : j < qs.length := by rw [HN.out]; exact hlt
      have hBW : B ≤ W.heap.size := by have := HJ.out.1.2.size; rw [HB.out.1] at this; exact this
      obtain ⟨b, off, rfl, hb, hc⟩ := (H.out.old (HJ.out.1.2.mono fun k hk => by rw [← HB.out.1]; exact hk)).cells (by omega)
      obtain ⟨c1, c2⟩ := hc j hjl
      have p0 := HJ.out.2.1
      have p1 := HJ.out.2.2
      have hts := take_snoc qs j hjl
      have hst : Srt (qs.take j ++ [(keyAt qs j, valAt qs j)]) := by rw [← hts]; exact HS.out.sublist (List.take_sublist _ _)
      obtain ⟨kk, hkk⟩ : ∃ kk, keyAt qs j = kk := ⟨_, rfl⟩
      obtain ⟨vv, hvv⟩ : ∃ vv, valAt qs j = vv := ⟨_, rfl⟩
      have HK := Lib.hid (And.intro hkk hvv)
      rw [hkk] at c1
      rw [hvv] at c2
      rw [hkk, hvv] at hts hst
      have hol := outP_len key val (qs.take j)
      obtain ⟨hb1, hb2⟩ := rf_bnd (outP key val (qs.take j)).length (Nat.le_trans hol (by rw [List.length_take]; omega))
      rcases Nat.lt_trichotomy kk key with hlt2 | heq | hgt
      · obtain ⟨o1, o2, o3⟩ := out_A (v := val) hst hlt2
        rw [← hts] at o1 o2
        have HO := Lib.hid (And.intro o1 o2)
        rw [o3]
        have u1 : ¬ (key : Int) ≤ (kk : Int) := by omega
        have u2 : decide ((key : Int) ≤ (kk : Int)) = false := decide_eq_false u1
        have u3 : ¬ key ≤ kk := by omega
        have u4 : decide (key ≤ kk) = false := decide_eq_false u3
        clear hc hkk hvv hjl hst hts o1 o2 o3 hol
        have m1 : ((kk : Int) != (key : Int)) = true := by simp only [bne_iff_ne, ne_eq]; omega
        have m2 : ¬ (kk : Int) = (key : Int) := by omega
        have m3 : decide ((kk : Int) = (key : Int)) = false := decide_eq_false m2
        have m4 : ¬ kk = key := by omega
        go_wp2_with fail
        go_quiet (fail)
        have hJd := HJ.out.drewN nq
        have hBW2 : B ≤ (W.drewN nq).heap.size := hBW
        have c1d : (W.drewN nq).cell? ⟨b, off + j * 2, none⟩ = some (.int .u64 (kk : Int)) := c1
        have c2d : (W.drewN nq).cell? ⟨b, off + j * 2 + 1, none⟩ = some (.int .u64 (vv : Int)) := c2
        obtain ⟨X, hX⟩ : ∃ X, W.drewN nq = X := ⟨_, rfl⟩
        rw [hX] at hJd hBW2 c1d c2d ⊢
        have HX := Lib.hid hJd
        have x0 := hJd.2.1
        have x1 := hJd.2.2
        clear hX hJd p0 p1 c1 c2
        go_wp2_with fail
        go_quiet (fail)
        have hJe := HX.out.drewN nq
        have hBW3 : B ≤ (X.drewN nq).heap.size := hBW2
        have c1e : (X.drewN nq).cell? ⟨b, off + j * 2, none⟩ = some (.int .u64 (kk : Int)) := c1d
        have c2e : (X.drewN nq).cell? ⟨b, off + j * 2 + 1, none⟩ = some (.int .u64 (vv : Int)) := c2d
        obtain ⟨Y, hY⟩ : ∃ Y, X.drewN nq = Y := ⟨_, rfl⟩
        rw [hY] at hJe hBW3 c1e c2e ⊢
        have HY := Lib.hid hJe
        have y0 := hJe.2.1
        have y1 := hJe.2.2
        clear hY hJe x0 x1 c1d c2d
        go_wp2_with (at_builtin; refine wpList_append_own _ rfl _ _ 29 rfl B 38 ii _ 2 16 Try.underlying29 hii hz0 hz1 hz2 rfl (by decide) _ _ _ rfl (HY.out.1.1.alloc _) ⟨Y.heap.size, 0, none⟩ 1 1 [.int .u64 (kk : Int), .int .u64 (vv : Int)] rfl rfl (World.news_of_block (cs := #[.int .u64 (kk : Int), .int .u64 (vv : Int)]) (t := 38) (fr := (0, 0)) (heap_alloc_new Y _)) (by simp [Value.oneCell']) hb1 hb2 (by rw [World.size_alloc]; exact Nat.le_succ_of_le hBW3) ?_)
        intro v' w8 hown hgrow _
        have HJ2 : Hid (RpJ B W1 xb key val (outP key val (qs.take (j + 1))) v' w8) := Lib.hid (by rw [HO.out.1]; exact HY.out.next hxB HB.out.1 hown hgrow)
        have HD : Hid (dnP key (qs.take (j + 1)) = false) := Lib.hid HO.out.2
        clear hown hgrow HX HY HJ HO hb1 hb2 c1e c2e y0 y1
        go_wp2_with fail
        go_roundw
        case rel => exact ⟨j + 1, _, _, rfl, rfl, by omega, by go_num, by rw [HD.out], HJ2⟩
        case measure => simp only [intOf]; omega
      · obtain ⟨o1, o2, o3⟩ := out_B (v := val) hst heq
        rw [← hts] at o1 o2
        have HO := Lib.hid (And.intro o1 o2)
        rw [o3]
        obtain rfl : kk = key := heq
        have u1 : (kk : Int) ≤ (kk : Int) := Int.le_refl _
        have m1 : ((kk : Int) != (kk : Int)) = false := by simp
        clear hc hkk hvv hjl hst hts o1 o2 o3 hol
        go_wp2_with fail
        go_quiet (fail)
        have hJd := HJ.out.drewN nq
        have hBW2 : B ≤ (W.drewN nq).heap.size := hBW
        have c1d : (W.drewN nq).cell? ⟨b, off + j * 2, none⟩ = some (.int .u64 (kk : Int)) := c1
        have c2d : (W.drewN nq).cell? ⟨b, off + j * 2 + 1, none⟩ = some (.int .u64 (vv : Int)) := c2
        obtain ⟨X, hX⟩ : ∃ X, W.drewN nq = X := ⟨_, rfl⟩
        rw [hX] at hJd hBW2 c1d c2d ⊢
        have HX := Lib.hid hJd
        have x0 := hJd.2.1
        have x1 := hJd.2.2
        clear hX hJd p0 p1 c1 c2
        go_wp2_with (at_builtin; refine wpList_append_own _ rfl _ _ 29 rfl B 38 ii _ 2 16 Try.underlying29 hii hz0 hz1 hz2 rfl (by decide) _ _ _ rfl (HX.out.1.1.alloc _) ⟨X.heap.size, 0, none⟩ 1 1 [.int .u64 (kk : Int), .int .u64 (val : Int)] rfl rfl (World.news_of_block (cs := #[.int .u64 (kk : Int), .int .u64 (val : Int)]) (t := 38) (fr := (0, 0)) (heap_alloc_new X _)) (by simp [Value.oneCell']) hb1 hb2 (by rw [World.size_alloc]; exact Nat.le_succ_of_le hBW2) ?_)
        intro v' w8 hown hgrow _
        have HJ2 : Hid (RpJ B W1 xb kk val (outP kk val (qs.take (j + 1))) v' w8) := Lib.hid (by rw [HO.out.1]; exact HX.out.next hxB HB.out.1 hown hgrow)
        have HD : Hid (dnP kk (qs.take (j + 1)) = true) := Lib.hid HO.out.2
        obtain ⟨b2, off2, e2, hb2', hc2⟩ := (H.out.old (HJ2.out.1.2.mono fun k hk => by rw [← HB.out.1]; exact hk)).cells (by have := HN.out; omega)
        obtain ⟨c1e, c2e⟩ := hc2 j (by rw [HN.out]; exact hlt)
        obtain ⟨rfl, rfl⟩ : b = b2 ∧ off = off2 := by cases e2; exact ⟨rfl, rfl⟩
        rw [HK.out.1] at c1e
        rw [HK.out.2] at c2e
        obtain ⟨y0, y1⟩ := HJ2.out.2
        have hBW3 : B ≤ w8.heap.size := by have := HJ2.out.1.2.size; rw [HB.out.1] at this; exact this
        clear hown hgrow HX HJ HO hb1 hb2 c1d c2d x0 x1 hBW2 e2 hc2 hb2' hb
        go_wp2_with fail
        go_quiet (fail)
        have hJ4 := HJ2.out.drewN nq
        have hBW4 : B ≤ (w8.drewN nq).heap.size := hBW3
        have c1f : (w8.drewN nq).cell? ⟨b, off + j * 2, none⟩ = some (.int .u64 (kk : Int)) := c1e
        have c2f : (w8.drewN nq).cell? ⟨b, off + j * 2 + 1, none⟩ = some (.int .u64 (vv : Int)) := c2e
        obtain ⟨Z, hZ⟩ : ∃ Z, w8.drewN nq = Z := ⟨_, rfl⟩
        rw [hZ] at hJ4 hBW4 c1f c2f ⊢
        have HZ := Lib.hid hJ4
        clear hZ hJ4 y0 y1 c1e c2e HJ2
        clear c1f c2f
        go_wp2_with fail
        go_roundw
        case rel => exact ⟨j + 1, _, _, rfl, rfl, by omega, by go_num, by rw [HD.out], HZ⟩
        case measure => simp only [intOf]; omega
      · have u1 : (key : Int) ≤ (kk : Int) := by omega
        have m1 : ((kk : Int) != (key : Int)) = true := by simp only [bne_iff_ne, ne_eq]; omega
        have m2 : ¬ (kk : Int) = (key : Int) := by omega
        have m3 : decide ((kk : Int) = (key : Int)) = false := decide_eq_false m2
        have m4 : ¬ kk = key := by omega
        obtain ⟨hb3, hb4⟩ := rf_bnd2 (outP key val (qs.take j) ++ [(key, val)]).length (by have := List.length_take_le j qs; rw [List.length_append]; simp only [List.length_cons, List.length_nil]; omega)
        cases hdn : dnP key (qs.take j) with
        | true =>
          obtain ⟨o1, o2⟩ := out_C (v := val) (a := qs.take j) (e := (kk, vv)) hgt hdn
          rw [← hts] at o1 o2
          have HO := Lib.hid (And.intro o1 o2)
          clear hc hkk hvv hjl hst hts o1 o2 hol hdn hb3 hb4
          go_wp2_with fail
          go_quiet (fail)
          have hJd := HJ.out.drewN nq
          have hBW2 : B ≤ (W.drewN nq).heap.size := hBW
          have c1d : (W.drewN nq).cell? ⟨b, off + j * 2, none⟩ = some (.int .u64 (kk : Int)) := c1
          have c2d : (W.drewN nq).cell? ⟨b, off + j * 2 + 1, none⟩ = some (.int .u64 (vv : Int)) := c2
          obtain ⟨X, hX⟩ : ∃ X, W.drewN nq = X := ⟨_, rfl⟩
          rw [hX] at hJd hBW2 c1d c2d ⊢
          have HX := Lib.hid hJd
          have x0 := hJd.2.1
          have x1 := hJd.2.2
          clear hX hJd p0 p1 c1 c2
          go_wp2_with fail
          go_quiet (fail)
          have hJe := HX.out.drewN nq
          have hBW3 : B ≤ (X.drewN nq).heap.size := hBW2
          have c1e : (X.drewN nq).cell? ⟨b, off + j * 2, none⟩ = some (.int .u64 (kk : Int)) := c1d
          have c2e : (X.drewN nq).cell? ⟨b, off + j * 2 + 1, none⟩ = some (.int .u64 (vv : Int)) := c2d
          obtain ⟨Y, hY⟩ : ∃ Y, X.drewN nq = Y := ⟨_, rfl⟩
          rw [hY] at hJe hBW3 c1e c2e ⊢
          have HY := Lib.hid hJe
          have y0 := hJe.2.1
          have y1 := hJe.2.2
          clear hY hJe x0 x1 c1d c2d
          go_wp2_with (at_builtin; refine wpList_append_own _ rfl _ _ 29 rfl B 38 ii _ 2 16 Try.underlying29 hii hz0 hz1 hz2 rfl (by decide) _ _ _ rfl (HY.out.1.1.alloc _) ⟨Y.heap.size, 0, none⟩ 1 1 [.int .u64 (kk : Int), .int .u64 (vv : Int)] rfl rfl (World.news_of_block (cs := #[.int .u64 (kk : Int), .int .u64 (vv : Int)]) (t := 38) (fr := (0, 0)) (heap_alloc_new Y _)) (by simp [Value.oneCell']) hb1 hb2 (by rw [World.size_alloc]; exact Nat.le_succ_of_le hBW3) ?_)
          intro v' w8 hown hgrow _
          have HJ2 : Hid (RpJ B W1 xb key val (outP key val (qs.take (j + 1))) v' w8) := Lib.hid (by rw [HO.out.1]; exact HY.out.next hxB HB.out.1 hown hgrow)
          have HD : Hid (dnP key (qs.take (j + 1)) = true) := Lib.hid HO.out.2
          clear hown hgrow HX HY HJ HO hb1 hb2 c1e c2e y0 y1
          go_wp2_with fail
          go_roundw
          case rel => exact ⟨j + 1, _, _, rfl, rfl, by omega, by go_num, by rw [HD.out], HJ2⟩
          case measure => simp only [intOf]; omega
        | false =>
          obtain ⟨o1, o2⟩ := out_D (v := val) (a := qs.take j) (e := (kk, vv)) hgt hdn
          rw [← hts] at o1 o2
          have HO := Lib.hid (And.intro o1 o2)
          clear hc hkk hvv hjl hst hts o1 o2 hol hdn
          have hb34 := Lib.hid (And.intro hb3 hb4)
          clear hb3 hb4
          go_wp2_with fail
          go_quiet (fail)
          have hJd := HJ.out.drewN nq
          have hBW2 : B ≤ (W.drewN nq).heap.size := hBW
          have c1d : (W.drewN nq).cell? ⟨b, off + j * 2, none⟩ = some (.int .u64 (kk : Int)) := c1
          have c2d : (W.drewN nq).cell? ⟨b, off + j * 2 + 1, none⟩ = some (.int .u64 (vv : Int)) := c2
          obtain ⟨X, hX⟩ : ∃ X, W.drewN nq = X := ⟨_, rfl⟩
          rw [hX] at hJd hBW2 c1d c2d ⊢
          have HX := Lib.hid hJd
          have x0 := hJd.2.1
          have x1 := hJd.2.2
          clear hX hJd p0 p1 c1 c2
          go_wp2_with (at_builtin; refine wpList_append_own _ rfl _ _ 29 rfl B 38 ii _ 2 16 Try.underlying29 hii hz0 hz1 hz2 rfl (by decide) _ _ _ rfl (HX.out.1.1.alloc _) ⟨X.heap.size, 0, none⟩ 1 1 [.int .u64 (key : Int), .int .u64 (val : Int)] rfl rfl (World.news_of_block (cs := #[.int .u64 (key : Int), .int .u64 (val : Int)]) (t := 38) (fr := (0, 0)) (heap_alloc_new X _)) (by simp [Value.oneCell']) hb1 hb2 (by rw [World.size_alloc]; exact Nat.le_succ_of_le hBW2) ?_)
          intro v' w8 hown hgrow _
          have HJ2 : Hid (RpJ B W1 xb key val (outP key val (qs.take j) ++ [(key, val)]) v' w8) := Lib.hid (HX.out.next hxB HB.out.1 hown hgrow)
          obtain ⟨b2, off2, e2, hb2', hc2⟩ := (H.out.old (HJ2.out.1.2.mono fun k hk => by rw [← HB.out.1]; exact hk)).cells (by have := HN.out; omega)
          obtain ⟨c1e, c2e⟩ := hc2 j (by rw [HN.out]; exact hlt)
          obtain ⟨rfl, rfl⟩ : b = b2 ∧ off = off2 := by cases e2; exact ⟨rfl, rfl⟩
          rw [HK.out.1] at c1e
          rw [HK.out.2] at c2e
          obtain ⟨y0, y1⟩ := HJ2.out.2
          have hBW3 : B ≤ w8.heap.size := by have := HJ2.out.1.2.size; rw [HB.out.1] at this; exact this
          clear hown hgrow HX HJ hb1 hb2 c1d c2d x0 x1 hBW2 e2 hc2 hb2' hb
          go_wp2_with fail
          go_quiet (fail)
          have hJ4 := HJ2.out.drewN nq
          have hBW4 : B ≤ (w8.drewN nq).heap.size := hBW3
          have c1f : (w8.drewN nq).cell? ⟨b, off + j * 2, none⟩ = some (.int .u64 (kk : Int)) := c1e
          have c2f : (w8.drewN nq).cell? ⟨b, off + j * 2 + 1, none⟩ = some (.int .u64 (vv : Int)) := c2e
          obtain ⟨Z, hZ⟩ : ∃ Z, w8.drewN nq = Z := ⟨_, rfl⟩
          rw [hZ] at hJ4 hBW4 c1f c2f ⊢
          have HZ := Lib.hid hJ4
          clear hZ hJ4 y0 y1 c1e c2e HJ2
          obtain ⟨hb1, hb2⟩ := hb34.out
          obtain ⟨o2, ho2⟩ : ∃ o2, outP key val (qs.take j) ++ [(key, val)] = o2 := ⟨_, rfl⟩
          have HO2 := Lib.hid ho2
          rw [ho2] at hb1 hb2 HZ
          clear hb34 ho2
          go_wp2_with (at_builtin; refine wpList_append_own _ rfl _ _ 29 rfl B 38 ii _ 2 16 Try.underlying29 hii hz0 hz1 hz2 rfl (by decide) _ _ _ rfl (HZ.out.1.1.alloc _) ⟨Z.heap.size, 0, none⟩ 1 1 [.int .u64 (kk : Int), .int .u64 (vv : Int)] rfl rfl (World.news_of_block (cs := #[.int .u64 (kk : Int), .int .u64 (vv : Int)]) (t := 38) (fr := (0, 0)) (heap_alloc_new Z _)) (by simp [Value.oneCell']) hb1 hb2 (by rw [World.size_alloc]; exact Nat.le_succ_of_le hBW4) ?_)
          intro v' w8 hown hgrow _
          have HJ3 : Hid (RpJ B W1 xb key val (outP key val (qs.take (j + 1))) v' w8) := Lib.hid (by rw [HO.out.1, HO2.out]; exact HZ.out.next hxB HB.out.1 hown hgrow)
          have HD : Hid (dnP key (qs.take (j + 1)) = true) := Lib.hid HO.out.2
          clear hown hgrow HZ HO hb1 hb2 c1f c2f
          go_wp2_with fail
          go_roundw
          case rel => exact ⟨j + 1, _, _, rfl, rfl, by omega, by go_num, by rw [HD.out], HJ3⟩
          case measure => simp only [intOf]; omega
    · have d1 : ¬ (j : Int) < (n : Int) := by omega
      have hxw : w.heap.size ≤ B := by rw [HB.out.2.1]; omega
      have htk : qs.take j = qs := List.take_of_length_le (by rw [HN.out]; omega)
      have hE := HJ.out
      have hend := out_end key val qs
      have hlo := outP_len key val qs
      have hn2 := HN.out
      rw [htk] at hE ⊢
      rw [HR.out] at hend
      cases hdn : dnP key qs with
      | true =>
        rw [if_pos hdn] at hend
        rw [hend] at hE
        have HE : Hid (RfS w R (.returned v0) W) := Lib.hid ⟨v0, rfl, row_weaken hE.1.1 hxw, HB.out.2.2.2.trans (hE.1.2.mono fun k hk => Nat.lt_of_lt_of_le hk hxw)⟩
        clear HJ hE hend hlo hn2 htk hdn
        go_wp2_with fail
        go_ret
        exact HE.out
      | false =>
        rw [if_neg (by rw [hdn]; decide)] at hend
        obtain ⟨hb1, hb2⟩ := rf_bnd2 (outP key val qs).length (by omega)
        have hBW : B ≤ W.heap.size := by have := hE.1.2.size; rw [HB.out.1] at this; exact this
        have x0 := hE.2.1
        have x1 := hE.2.2
        have HX := Lib.hid hE
        have HO := Lib.hid hend
        clear HJ hE hend hlo hn2 htk hdn
        go_wp2_with (at_builtin; refine wpList_append_own _ rfl _ _ 29 rfl B 38 ii _ 2 16 Try.underlying29 hii hz0 hz1 hz2 rfl (by decide) _ _ _ rfl (HX.out.1.1.alloc _) ⟨W.heap.size, 0, none⟩ 1 1 [.int .u64 (key : Int), .int .u64 (val : Int)] rfl rfl (World.news_of_block (cs := #[.int .u64 (key : Int), .int .u64 (val : Int)]) (t := 38) (fr := (0, 0)) (heap_alloc_new W _)) (by simp [Value.oneCell']) hb1 hb2 (by rw [World.size_alloc]; exact Nat.le_succ_of_le hBW) ?_)
        intro v' w8 hown hgrow _
        have HE : Hid (RfS w R (.returned v') w8) := Lib.hid (by
          have := HX.out.next hxB HB.out.1 hown hgrow
          rw [HO.out] at this
          exact ⟨v', rfl, row_weaken this.1.1 hxw, HB.out.2.2.2.trans (this.1.2.mono fun k hk => Nat.lt_of_lt_of_le hk hxw)⟩)
        clear hown hgrow HX HO hb1 hb2 x0 x1
        go_wp2_with fail
        go_ret
        exact HE.out

end Go.Proofs.Ytlnlgapjlekehaa
