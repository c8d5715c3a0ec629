/- tiercelaw06.HeadExact: it answers true whatever the input; what was there stands. -/
import Derived.Test.YtdogchpeimgkjaaDoorAw6
import Derived.Test.YtdogchpeimgkjaaDoorRef6n
set_option linter.unusedVariables false
namespace Go.Proofs.YtdogchpeimgkjaaDoor
open Go.RowKit

attribute [local go_sem] eqTwo

set_option maxHeartbeats 4000000 in
set_option maxRecDepth 100000 in
theorem headExactW (g : Nat) (r s f c : Int) (sa sb : ByteArray) (w : World) (wa : sa.size ≤ maxLen) (wb : sb.size ≤ maxLen) (hT : Tab w) :
    Calls Tryd.prog 3 #[headV ⟨g, r, s, f, c⟩, .string sa, .string sb] w fun e w' => e = .returned (.bool true) ∧ KeptIn (· < w.heap.size) w w' := by
  obtain ⟨a, rfl⟩ : ∃ l : List UInt8, sa = ⟨l.toArray⟩ := ⟨sa.data.toList, (Lib.mk_data sa).symm⟩
  obtain ⟨b, rfl⟩ : ∃ l : List UInt8, sb = ⟨l.toArray⟩ := ⟨sb.data.toList, (Lib.mk_data sb).symm⟩
  have la : (a.length : Int) ≤ 9223372036854775807 := by
    rw [show (⟨a.toArray⟩ : ByteArray).size = a.length from List.size_toArray ..] at wa
    unfold maxLen at wa; omega
  have lb : (b.length : Int) ≤ 9223372036854775807 := by
    rw [show (⟨b.toArray⟩ : ByteArray).size = b.length from List.size_toArray ..] at wb
    unfold maxLen at wb; omega
  clear wa wb
  obtain ⟨x, hx⟩ : ∃ x, w.heap.size = x := ⟨_, rfl⟩
  obtain ⟨W1, hW1⟩ : ∃ W1, w.alloc (.cells #[.int .u64 g, .int .i64 r, .int .i64 s, .int .i64 f, .int .i64 c] 25) = W1 := ⟨_, rfl⟩
  have hk1 : KeptIn (· < w.heap.size) w W1 := by rw [← hW1]; exact (KeptIn.refl _ w).alloc (fun _ h => h) _
  have hb1 : BoxH x ⟨g, r, s, f, c⟩ W1 := by rw [← hW1, ← hx]; exact BoxH.new w ⟨g, r, s, f, c⟩
  have hT1 := hT.old hk1
  have HT1 := Lib.hid hT1
  have CA := Lib.hid (awake6 W1 hT1)
  have HBX : Hid (∀ V, KeptIn (· < W1.heap.size) W1 V → V.cell? ⟨x, 0, none⟩ = some (.int .u64 g) ∧ V.cell? ⟨x, 1, none⟩ = some (.int .i64 r) ∧ V.cell? ⟨x, 2, none⟩ = some (.int .i64 s) ∧ V.cell? ⟨x, 3, none⟩ = some (.int .i64 f) ∧ V.cell? ⟨x, 4, none⟩ = some (.int .i64 c)) := Lib.hid fun V k => by
    have h := hb1.kept k hb1.lt
    exact ⟨h.c0, h.c1, h.c2, h.c3, h.c4⟩
  have HW1 := Lib.hid hW1
  have HK1 := Lib.hid hk1
  have HXX := Lib.hid hx
  unfold headV
  simp only
  clear hT hk1 hb1 hT1 hW1 hx
  by_cases ha40 : (40 : Int) < (a.length : Int)
  · go_enter Tryd.func3, Tryd.ntmps3
    go_wp2_with (go_at_call 6; rw [HW1.out, HXX.out]; refine CA.out.mono ?_; rintro e V1 ⟨rfl, kv⟩)
    go_ret
    exact ⟨rfl, HK1.out.step kv⟩
  have ha : (a.length : Int) ≤ 40 := by omega
  by_cases hb40 : (40 : Int) < (b.length : Int)
  · go_enter Tryd.func3, Tryd.ntmps3
    go_wp2_with (go_at_call 6; rw [HW1.out, HXX.out]; refine CA.out.mono ?_; rintro e V1 ⟨rfl, kv⟩)
    go_ret
    exact ⟨rfl, HK1.out.step kv⟩
  have hb : (b.length : Int) ≤ 40 := by omega
  clear ha40 hb40
  have CRA0 := fun V (hk : KeptIn (· < W1.heap.size) W1 V) => hdRead a V (HT1.out.old hk) (by omega)
  have CRR0 := fun V => r6Read a V (by omega)
  have CNA0 := fun V (hk : KeptIn (· < W1.heap.size) W1 V) => hdNewest a b V (HT1.out.old hk) (by omega) (by omega)
  have CNR0 := fun V => r6Newest a b V (by omega) (by omega)
  obtain ⟨i1, hi1⟩ : ∃ i, isH a = i := ⟨_, rfl⟩
  obtain ⟨⟨g1, r1, s1, f1, c1⟩, ho1⟩ : ∃ o, headR a = o := ⟨_, rfl⟩
  obtain ⟨⟨⟨g2, r2, s2, f2, c2'⟩, i2, j2⟩, hn⟩ : ∃ n, newH a b = n := ⟨_, rfl⟩
  rw [hi1, ho1] at CRA0 CRR0
  rw [hn] at CNA0 CNR0
  simp only at CNA0 CNR0
  have HCC := Lib.hid (And.intro CRA0 (And.intro CRR0 (And.intro CNA0 CNR0)))
  clear CRA0 CRR0 CNA0 CNR0 hi1 ho1 hn
  have HG0 := fun V => hdGood ⟨g, r, s, f, c⟩ V
  have HG60 := fun V => r6Good ⟨g, r, s, f, c⟩ V
  cases hg : goodH ⟨g, r, s, f, c⟩ with
  | false =>
    have HBB := Lib.hid fun V => hdBytesBad ⟨g, r, s, f, c⟩ hg V
    simp only [hg] at HG0 HG60
    unfold headV at HBB HG0 HG60
    simp only at HBB HG0 HG60
    have HG := Lib.hid HG0; have HG6 := Lib.hid HG60
    clear hg HG0 HG60
    go_enter Tryd.func3, Tryd.ntmps3
    go_wp2_with (first
      | (go_at_call 6; rw [HW1.out, HXX.out]; refine CA.out.mono ?_; clear CA; rintro e V1 ⟨rfl, kv⟩; obtain ⟨c01, c11, c21, c31, c41⟩ := HBX.out V1 kv)
      | (go_at_call 7; refine (HBB.out V1).mono ?_; clear HBB; rintro e V2 ⟨rfl, k2⟩; obtain ⟨c02, c12, c22, c32, c42⟩ := HBX.out V2 (kv.step k2)))
    have kv2 := kv.step k2
    clear c01 c11 c21 c31 c41
    have HGG := Lib.hid fun V (k : KeptIn (· < V2.heap.size) V2 V) => (HG.out V).mono (R' := fun e w' => e = .returned (.bool false) ∧ KeptIn (· < V2.heap.size) V2 w') fun e w' ⟨he, h⟩ => ⟨he, k.step h⟩
    have HGR := Lib.hid fun V (k : KeptIn (· < V2.heap.size) V2 V) => (HG6.out V).mono (R' := fun e w' => e = .returned (.bool false) ∧ KeptIn (· < V2.heap.size) V2 w') fun e w' ⟨he, h⟩ => ⟨he, k.step h⟩
    have HB2 := Lib.hid fun V (k : KeptIn (· < V2.heap.size) V2 V) => HBX.out V (kv2.step k)
    go_region_held3 (fun w' => w'.cell? ⟨x, 0, none⟩ = some (.int .u64 g) ∧ w'.cell? ⟨x, 1, none⟩ = some (.int .i64 r) ∧ w'.cell? ⟨x, 2, none⟩ = some (.int .i64 s) ∧ w'.cell? ⟨x, 3, none⟩ = some (.int .i64 f) ∧ w'.cell? ⟨x, 4, none⟩ = some (.int .i64 c))
      (first | exact ⟨c02, c12, c22, c32, c42⟩ | exact HB2.out _ hk)
      (first
        | (go_at_call 8; refine (HGG.out _ ((KeptIn.refl _ _).drew)).mono ?_; rintro e w' ⟨rfl, hk⟩)
        | (go_at_call 8; refine (HGG.out _ hk).mono ?_; rintro e w' ⟨rfl, hk⟩)
        | (go_at_call 9; refine (HGR.out _ hk).mono ?_; rintro e w' ⟨rfl, hk⟩)
        | (go_at_call 9; refine (HGR.out _ ((KeptIn.refl _ _).drew)).mono ?_; rintro e w' ⟨rfl, hk⟩))
    have hk3 := hk
    obtain ⟨c03, c13, c23, c33, c43⟩ := HB2.out w' hk
    go_wp2_with (go_at_call 9; refine (HGR.out w' hk3).mono ?_; clear HGR; rintro e V4 ⟨rfl, k4⟩)
    have KV := kv2.step k4
    clear c02 c12 c22 c32 c42 c03 c13 c23 c33 c43
    obtain ⟨CRA, CRR, CNA, CNR⟩ := HCC.out
    clear HCC
    cases i1 with
    | false =>
      have HRA := Lib.hid CRA; have HRR := Lib.hid CRR
      clear CRA CRR
      cases j2 with
      | false =>
        have HNA := Lib.hid CNA; have HNR := Lib.hid CNR
        clear CNA CNR
        refine (HRA.out _ KV).mono ?_
        rintro e U1 hR
        unfold ReadH headV at hR
        obtain ⟨rfl, u1⟩ := hR
        simp only []
        obtain ⟨y, hy⟩ : ∃ y, U1.heap.size = y := ⟨_, rfl⟩
        obtain ⟨U2, hU2⟩ : ∃ U, U1.alloc (.cells #[.int .u64 g1, .int .i64 r1, .int .i64 s1, .int .i64 f1, .int .i64 c1] 25) = U := ⟨_, rfl⟩
        have by2 : BoxH y ⟨g1, r1, s1, f1, c1⟩ U2 := by rw [← hU2, ← hy]; exact BoxH.new U1 ⟨g1, r1, s1, f1, c1⟩
        have kU2 : KeptIn (· < W1.heap.size) W1 U2 := by rw [← hU2]; exact (KV.step u1).alloc (fun _ h => h) _
        have HY := Lib.hid (And.intro by2 (And.intro kU2 (And.intro hU2 hy)))
        clear by2 kU2 hU2 hy u1 KV
        go_wp2_with fail
        rw [HY.out.2.2.1, HY.out.2.2.2]
        refine (HRR.out U2).mono ?_
        rintro e U3 hR
        unfold Read6 headV at hR
        obtain ⟨rfl, u3⟩ := hR
        have u4 : KeptIn (· < U2.heap.size) U2 (U3.alloc (.cells #[.int .u64 g1, .int .i64 r1, .int .i64 s1, .int .i64 f1, .int .i64 c1] 25)) := u3.alloc (fun _ h => h) _
        have hy4 := HY.out.1.kept u4 HY.out.1.lt
        have c0 := hy4.c0; have c1' := hy4.c1; have c2 := hy4.c2; have c3 := hy4.c3; have c4 := hy4.c4
        simp only at c0 c1' c2 c3 c4
        obtain ⟨U4, hU4⟩ : ∃ U, U3.alloc (.cells #[.int .u64 g1, .int .i64 r1, .int .i64 s1, .int .i64 f1, .int .i64 c1] 25) = U := ⟨_, rfl⟩
        have kU4 : KeptIn (· < W1.heap.size) W1 U4 := by rw [← hU4]; exact HY.out.2.1.step u4
        have HU4 := Lib.hid (And.intro kU4 hU4)
        clear hy4 u4 u3 kU4 hU4 HY
        go_wp2_with fail
        rw [HU4.out.2]
        clear c0 c1' c2 c3 c4
        refine (HNA.out U4 HU4.out.1).mono ?_
        rintro e U5 hR
        unfold NewH headV at hR
        obtain ⟨rfl, u5⟩ := hR
        obtain ⟨z, hz⟩ : ∃ z, U5.heap.size = z := ⟨_, rfl⟩
        obtain ⟨U6, hU6⟩ : ∃ U, U5.alloc (.cells #[.int .u64 g2, .int .i64 r2, .int .i64 s2, .int .i64 f2, .int .i64 c2'] 25) = U := ⟨_, rfl⟩
        have bz : BoxH z ⟨g2, r2, s2, f2, c2'⟩ U6 := by rw [← hU6, ← hz]; exact BoxH.new U5 ⟨g2, r2, s2, f2, c2'⟩
        have kU6 : KeptIn (· < W1.heap.size) W1 U6 := by rw [← hU6]; exact (HU4.out.1.step u5).alloc (fun _ h => h) _
        have HZ := Lib.hid (And.intro bz (And.intro kU6 (And.intro hU6 hz)))
        clear bz kU6 hU6 hz u5 HU4
        go_wp2_with fail
        rw [HZ.out.2.2.1, HZ.out.2.2.2]
        refine (HNR.out U6).mono ?_
        rintro e U7 hR
        unfold New6 headV at hR
        obtain ⟨rfl, u7⟩ := hR
        have u8 : KeptIn (· < U6.heap.size) U6 (U7.alloc (.cells #[.int .u64 g2, .int .i64 r2, .int .i64 s2, .int .i64 f2, .int .i64 c2'] 25)) := u7.alloc (fun _ h => h) _
        have hz4 := HZ.out.1.kept u8 HZ.out.1.lt
        have c0 := hz4.c0; have c1' := hz4.c1; have c2 := hz4.c2; have c3 := hz4.c3; have c4 := hz4.c4
        simp only at c0 c1' c2 c3 c4
        have HF := Lib.hid (HK1.out.step (HZ.out.2.1.step u8))
        clear hz4 u8 u7 HZ
        go_wp2_with fail
        go_ret
        exact ⟨rfl, HF.out⟩
      | true =>
        have HNA := Lib.hid CNA; have HNR := Lib.hid CNR
        clear CNA CNR
        refine (HRA.out _ KV).mono ?_
        rintro e U1 hR
        unfold ReadH headV at hR
        obtain ⟨rfl, u1⟩ := hR
        simp only []
        obtain ⟨y, hy⟩ : ∃ y, U1.heap.size = y := ⟨_, rfl⟩
        obtain ⟨U2, hU2⟩ : ∃ U, U1.alloc (.cells #[.int .u64 g1, .int .i64 r1, .int .i64 s1, .int .i64 f1, .int .i64 c1] 25) = U := ⟨_, rfl⟩
        have by2 : BoxH y ⟨g1, r1, s1, f1, c1⟩ U2 := by rw [← hU2, ← hy]; exact BoxH.new U1 ⟨g1, r1, s1, f1, c1⟩
        have kU2 : KeptIn (· < W1.heap.size) W1 U2 := by rw [← hU2]; exact (KV.step u1).alloc (fun _ h => h) _
        have HY := Lib.hid (And.intro by2 (And.intro kU2 (And.intro hU2 hy)))
        clear by2 kU2 hU2 hy u1 KV
        go_wp2_with fail
        rw [HY.out.2.2.1, HY.out.2.2.2]
        refine (HRR.out U2).mono ?_
        rintro e U3 hR
        unfold Read6 headV at hR
        obtain ⟨rfl, u3⟩ := hR
        have u4 : KeptIn (· < U2.heap.size) U2 (U3.alloc (.cells #[.int .u64 g1, .int .i64 r1, .int .i64 s1, .int .i64 f1, .int .i64 c1] 25)) := u3.alloc (fun _ h => h) _
        have hy4 := HY.out.1.kept u4 HY.out.1.lt
        have c0 := hy4.c0; have c1' := hy4.c1; have c2 := hy4.c2; have c3 := hy4.c3; have c4 := hy4.c4
        simp only at c0 c1' c2 c3 c4
        obtain ⟨U4, hU4⟩ : ∃ U, U3.alloc (.cells #[.int .u64 g1, .int .i64 r1, .int .i64 s1, .int .i64 f1, .int .i64 c1] 25) = U := ⟨_, rfl⟩
        have kU4 : KeptIn (· < W1.heap.size) W1 U4 := by rw [← hU4]; exact HY.out.2.1.step u4
        have HU4 := Lib.hid (And.intro kU4 hU4)
        clear hy4 u4 u3 kU4 hU4 HY
        go_wp2_with fail
        rw [HU4.out.2]
        clear c0 c1' c2 c3 c4
        refine (HNA.out U4 HU4.out.1).mono ?_
        rintro e U5 hR
        unfold NewH headV at hR
        obtain ⟨rfl, u5⟩ := hR
        obtain ⟨z, hz⟩ : ∃ z, U5.heap.size = z := ⟨_, rfl⟩
        obtain ⟨U6, hU6⟩ : ∃ U, U5.alloc (.cells #[.int .u64 g2, .int .i64 r2, .int .i64 s2, .int .i64 f2, .int .i64 c2'] 25) = U := ⟨_, rfl⟩
        have bz : BoxH z ⟨g2, r2, s2, f2, c2'⟩ U6 := by rw [← hU6, ← hz]; exact BoxH.new U5 ⟨g2, r2, s2, f2, c2'⟩
        have kU6 : KeptIn (· < W1.heap.size) W1 U6 := by rw [← hU6]; exact (HU4.out.1.step u5).alloc (fun _ h => h) _
        have HZ := Lib.hid (And.intro bz (And.intro kU6 (And.intro hU6 hz)))
        clear bz kU6 hU6 hz u5 HU4
        go_wp2_with fail
        rw [HZ.out.2.2.1, HZ.out.2.2.2]
        refine (HNR.out U6).mono ?_
        rintro e U7 hR
        unfold New6 headV at hR
        obtain ⟨rfl, u7⟩ := hR
        have u8 : KeptIn (· < U6.heap.size) U6 (U7.alloc (.cells #[.int .u64 g2, .int .i64 r2, .int .i64 s2, .int .i64 f2, .int .i64 c2'] 25)) := u7.alloc (fun _ h => h) _
        have hz4 := HZ.out.1.kept u8 HZ.out.1.lt
        have c0 := hz4.c0; have c1' := hz4.c1; have c2 := hz4.c2; have c3 := hz4.c3; have c4 := hz4.c4
        simp only at c0 c1' c2 c3 c4
        have HF := Lib.hid (HK1.out.step (HZ.out.2.1.step u8))
        clear hz4 u8 u7 HZ
        go_wp2_with fail
        go_ret
        exact ⟨rfl, HF.out⟩
    | true =>
      have HRA := Lib.hid CRA; have HRR := Lib.hid CRR
      clear CRA CRR
      cases j2 with
      | false =>
        have HNA := Lib.hid CNA; have HNR := Lib.hid CNR
        clear CNA CNR
        refine (HRA.out _ KV).mono ?_
        rintro e U1 hR
        unfold ReadH headV at hR
        obtain ⟨rfl, u1⟩ := hR
        simp only []
        obtain ⟨y, hy⟩ : ∃ y, U1.heap.size = y := ⟨_, rfl⟩
        obtain ⟨U2, hU2⟩ : ∃ U, U1.alloc (.cells #[.int .u64 g1, .int .i64 r1, .int .i64 s1, .int .i64 f1, .int .i64 c1] 25) = U := ⟨_, rfl⟩
        have by2 : BoxH y ⟨g1, r1, s1, f1, c1⟩ U2 := by rw [← hU2, ← hy]; exact BoxH.new U1 ⟨g1, r1, s1, f1, c1⟩
        have kU2 : KeptIn (· < W1.heap.size) W1 U2 := by rw [← hU2]; exact (KV.step u1).alloc (fun _ h => h) _
        have HY := Lib.hid (And.intro by2 (And.intro kU2 (And.intro hU2 hy)))
        clear by2 kU2 hU2 hy u1 KV
        go_wp2_with fail
        rw [HY.out.2.2.1, HY.out.2.2.2]
        refine (HRR.out U2).mono ?_
        rintro e U3 hR
        unfold Read6 headV at hR
        obtain ⟨rfl, u3⟩ := hR
        have u4 : KeptIn (· < U2.heap.size) U2 (U3.alloc (.cells #[.int .u64 g1, .int .i64 r1, .int .i64 s1, .int .i64 f1, .int .i64 c1] 25)) := u3.alloc (fun _ h => h) _
        have hy4 := HY.out.1.kept u4 HY.out.1.lt
        have c0 := hy4.c0; have c1' := hy4.c1; have c2 := hy4.c2; have c3 := hy4.c3; have c4 := hy4.c4
        simp only at c0 c1' c2 c3 c4
        obtain ⟨U4, hU4⟩ : ∃ U, U3.alloc (.cells #[.int .u64 g1, .int .i64 r1, .int .i64 s1, .int .i64 f1, .int .i64 c1] 25) = U := ⟨_, rfl⟩
        have kU4 : KeptIn (· < W1.heap.size) W1 U4 := by rw [← hU4]; exact HY.out.2.1.step u4
        have HU4 := Lib.hid (And.intro kU4 hU4)
        clear hy4 u4 u3 kU4 hU4 HY
        go_wp2_with fail
        rw [HU4.out.2]
        clear c0 c1' c2 c3 c4
        refine (HNA.out U4 HU4.out.1).mono ?_
        rintro e U5 hR
        unfold NewH headV at hR
        obtain ⟨rfl, u5⟩ := hR
        obtain ⟨z, hz⟩ : ∃ z, U5.heap.size = z := ⟨_, rfl⟩
        obtain ⟨U6, hU6⟩ : ∃ U, U5.alloc (.cells #[.int .u64 g2, .int .i64 r2, .int .i64 s2, .int .i64 f2, .int .i64 c2'] 25) = U := ⟨_, rfl⟩
        have bz : BoxH z ⟨g2, r2, s2, f2, c2'⟩ U6 := by rw [← hU6, ← hz]; exact BoxH.new U5 ⟨g2, r2, s2, f2, c2'⟩
        have kU6 : KeptIn (· < W1.heap.size) W1 U6 := by rw [← hU6]; exact (HU4.out.1.step u5).alloc (fun _ h => h) _
        have HZ := Lib.hid (And.intro bz (And.intro kU6 (And.intro hU6 hz)))
        clear bz kU6 hU6 hz u5 HU4
        go_wp2_with fail
        rw [HZ.out.2.2.1, HZ.out.2.2.2]
        refine (HNR.out U6).mono ?_
        rintro e U7 hR
        unfold New6 headV at hR
        obtain ⟨rfl, u7⟩ := hR
        have u8 : KeptIn (· < U6.heap.size) U6 (U7.alloc (.cells #[.int .u64 g2, .int .i64 r2, .int .i64 s2, .int .i64 f2, .int .i64 c2'] 25)) := u7.alloc (fun _ h => h) _
        have hz4 := HZ.out.1.kept u8 HZ.out.1.lt
        have c0 := hz4.c0; have c1' := hz4.c1; have c2 := hz4.c2; have c3 := hz4.c3; have c4 := hz4.c4
        simp only at c0 c1' c2 c3 c4
        have HF := Lib.hid (HK1.out.step (HZ.out.2.1.step u8))
        clear hz4 u8 u7 HZ
        go_wp2_with fail
        go_ret
        exact ⟨rfl, HF.out⟩
      | true =>
        have HNA := Lib.hid CNA; have HNR := Lib.hid CNR
        clear CNA CNR
        refine (HRA.out _ KV).mono ?_
        rintro e U1 hR
        unfold ReadH headV at hR
        obtain ⟨rfl, u1⟩ := hR
        simp only []
        obtain ⟨y, hy⟩ : ∃ y, U1.heap.size = y := ⟨_, rfl⟩
        obtain ⟨U2, hU2⟩ : ∃ U, U1.alloc (.cells #[.int .u64 g1, .int .i64 r1, .int .i64 s1, .int .i64 f1, .int .i64 c1] 25) = U := ⟨_, rfl⟩
        have by2 : BoxH y ⟨g1, r1, s1, f1, c1⟩ U2 := by rw [← hU2, ← hy]; exact BoxH.new U1 ⟨g1, r1, s1, f1, c1⟩
        have kU2 : KeptIn (· < W1.heap.size) W1 U2 := by rw [← hU2]; exact (KV.step u1).alloc (fun _ h => h) _
        have HY := Lib.hid (And.intro by2 (And.intro kU2 (And.intro hU2 hy)))
        clear by2 kU2 hU2 hy u1 KV
        go_wp2_with fail
        rw [HY.out.2.2.1, HY.out.2.2.2]
        refine (HRR.out U2).mono ?_
        rintro e U3 hR
        unfold Read6 headV at hR
        obtain ⟨rfl, u3⟩ := hR
        have u4 : KeptIn (· < U2.heap.size) U2 (U3.alloc (.cells #[.int .u64 g1, .int .i64 r1, .int .i64 s1, .int .i64 f1, .int .i64 c1] 25)) := u3.alloc (fun _ h => h) _
        have hy4 := HY.out.1.kept u4 HY.out.1.lt
        have c0 := hy4.c0; have c1' := hy4.c1; have c2 := hy4.c2; have c3 := hy4.c3; have c4 := hy4.c4
        simp only at c0 c1' c2 c3 c4
        obtain ⟨U4, hU4⟩ : ∃ U, U3.alloc (.cells #[.int .u64 g1, .int .i64 r1, .int .i64 s1, .int .i64 f1, .int .i64 c1] 25) = U := ⟨_, rfl⟩
        have kU4 : KeptIn (· < W1.heap.size) W1 U4 := by rw [← hU4]; exact HY.out.2.1.step u4
        have HU4 := Lib.hid (And.intro kU4 hU4)
        clear hy4 u4 u3 kU4 hU4 HY
        go_wp2_with fail
        rw [HU4.out.2]
        clear c0 c1' c2 c3 c4
        refine (HNA.out U4 HU4.out.1).mono ?_
        rintro e U5 hR
        unfold NewH headV at hR
        obtain ⟨rfl, u5⟩ := hR
        obtain ⟨z, hz⟩ : ∃ z, U5.heap.size = z := ⟨_, rfl⟩
        obtain ⟨U6, hU6⟩ : ∃ U, U5.alloc (.cells #[.int .u64 g2, .int .i64 r2, .int .i64 s2, .int .i64 f2, .int .i64 c2'] 25) = U := ⟨_, rfl⟩
        have bz : BoxH z ⟨g2, r2, s2, f2, c2'⟩ U6 := by rw [← hU6, ← hz]; exact BoxH.new U5 ⟨g2, r2, s2, f2, c2'⟩
        have kU6 : KeptIn (· < W1.heap.size) W1 U6 := by rw [← hU6]; exact (HU4.out.1.step u5).alloc (fun _ h => h) _
        have HZ := Lib.hid (And.intro bz (And.intro kU6 (And.intro hU6 hz)))
        clear bz kU6 hU6 hz u5 HU4
        go_wp2_with fail
        rw [HZ.out.2.2.1, HZ.out.2.2.2]
        refine (HNR.out U6).mono ?_
        rintro e U7 hR
        unfold New6 headV at hR
        obtain ⟨rfl, u7⟩ := hR
        have u8 : KeptIn (· < U6.heap.size) U6 (U7.alloc (.cells #[.int .u64 g2, .int .i64 r2, .int .i64 s2, .int .i64 f2, .int .i64 c2'] 25)) := u7.alloc (fun _ h => h) _
        have hz4 := HZ.out.1.kept u8 HZ.out.1.lt
        have c0 := hz4.c0; have c1' := hz4.c1; have c2 := hz4.c2; have c3 := hz4.c3; have c4 := hz4.c4
        simp only at c0 c1' c2 c3 c4
        have HF := Lib.hid (HK1.out.step (HZ.out.2.1.step u8))
        clear hz4 u8 u7 HZ
        go_wp2_with fail
        go_ret
        exact ⟨rfl, HF.out⟩
  | true =>
    obtain ⟨bb, hbb⟩ : ∃ bb, bytesH ⟨g, r, s, f, c⟩ = bb := ⟨_, rfl⟩
    have HBB0 := fun V (hk : KeptIn (· < W1.heap.size) W1 V) => hdBytesOk ⟨g, r, s, f, c⟩ hg V (HT1.out.old hk)
    have HBR0 := fun V => r6Bytes ⟨g, r, s, f, c⟩ hg V
    simp only [hg] at HG0 HG60
    simp only [hbb] at HBB0 HBR0
    unfold headV at HBB0 HBR0 HG0 HG60
    simp only at HBB0 HBR0 HG0 HG60
    have HG := Lib.hid HG0; have HG6 := Lib.hid HG60; have HBB := Lib.hid HBB0; have HBR := Lib.hid HBR0
    have q1 : (bb == bb) = true := beq_self_eq_true bb
    clear hg HG0 HG60 hbb HBB0 HBR0
    go_enter Tryd.func3, Tryd.ntmps3
    go_wp2_with (first
      | (go_at_call 6; rw [HW1.out, HXX.out]; refine CA.out.mono ?_; clear CA; rintro e V1 ⟨rfl, kv⟩; obtain ⟨c01, c11, c21, c31, c41⟩ := HBX.out V1 kv)
      | (go_at_call 7; refine (HBB.out V1 kv).mono ?_; clear HBB; rintro e V2 ⟨rfl, k2⟩; obtain ⟨c02, c12, c22, c32, c42⟩ := HBX.out V2 (kv.step k2)))
    have kv2 := kv.step k2
    clear c01 c11 c21 c31 c41
    have HGG := Lib.hid fun V (k : KeptIn (· < V2.heap.size) V2 V) => (HG.out V).mono (R' := fun e w' => e = .returned (.bool true) ∧ KeptIn (· < V2.heap.size) V2 w') fun e w' ⟨he, h⟩ => ⟨he, k.step h⟩
    have HGR := Lib.hid fun V (k : KeptIn (· < V2.heap.size) V2 V) => (HG6.out V).mono (R' := fun e w' => e = .returned (.bool true) ∧ KeptIn (· < V2.heap.size) V2 w') fun e w' ⟨he, h⟩ => ⟨he, k.step h⟩
    have HB2 := Lib.hid fun V (k : KeptIn (· < V2.heap.size) V2 V) => HBX.out V (kv2.step k)
    go_region_held3 (fun w' => w'.cell? ⟨x, 0, none⟩ = some (.int .u64 g) ∧ w'.cell? ⟨x, 1, none⟩ = some (.int .i64 r) ∧ w'.cell? ⟨x, 2, none⟩ = some (.int .i64 s) ∧ w'.cell? ⟨x, 3, none⟩ = some (.int .i64 f) ∧ w'.cell? ⟨x, 4, none⟩ = some (.int .i64 c))
      (first | exact ⟨c02, c12, c22, c32, c42⟩ | exact HB2.out _ hk)
      (first
        | (go_at_call 8; refine (HGG.out _ ((KeptIn.refl _ _).drew)).mono ?_; rintro e w' ⟨rfl, hk⟩)
        | (go_at_call 8; refine (HGG.out _ hk).mono ?_; rintro e w' ⟨rfl, hk⟩)
        | (go_at_call 9; refine (HGR.out _ hk).mono ?_; rintro e w' ⟨rfl, hk⟩)
        | (go_at_call 9; refine (HGR.out _ ((KeptIn.refl _ _).drew)).mono ?_; rintro e w' ⟨rfl, hk⟩))
    have hk3 := hk
    obtain ⟨c03, c13, c23, c33, c43⟩ := HB2.out w' hk
    go_wp2_with (first
      | (go_at_call 9; refine (HGR.out w' hk3).mono ?_; clear HGR; rintro e V4 ⟨rfl, k4⟩; obtain ⟨c04, c14, c24, c34, c44⟩ := HB2.out V4 k4)
      | (go_at_call 10; refine (HBR.out V4).mono ?_; clear HBR; rintro e V5 ⟨rfl, k5⟩))
    have KV := (kv2.step k4).step k5
    clear c02 c12 c22 c32 c42 c03 c13 c23 c33 c43 c04 c14 c24 c34 c44
    obtain ⟨CRA, CRR, CNA, CNR⟩ := HCC.out
    clear HCC
    cases i1 with
    | false =>
      have HRA := Lib.hid CRA; have HRR := Lib.hid CRR
      clear CRA CRR
      cases j2 with
      | false =>
        have HNA := Lib.hid CNA; have HNR := Lib.hid CNR
        clear CNA CNR
        refine (HRA.out _ KV).mono ?_
        rintro e U1 hR
        unfold ReadH headV at hR
        obtain ⟨rfl, u1⟩ := hR
        simp only []
        obtain ⟨y, hy⟩ : ∃ y, U1.heap.size = y := ⟨_, rfl⟩
        obtain ⟨U2, hU2⟩ : ∃ U, U1.alloc (.cells #[.int .u64 g1, .int .i64 r1, .int .i64 s1, .int .i64 f1, .int .i64 c1] 25) = U := ⟨_, rfl⟩
        have by2 : BoxH y ⟨g1, r1, s1, f1, c1⟩ U2 := by rw [← hU2, ← hy]; exact BoxH.new U1 ⟨g1, r1, s1, f1, c1⟩
        have kU2 : KeptIn (· < W1.heap.size) W1 U2 := by rw [← hU2]; exact (KV.step u1).alloc (fun _ h => h) _
        have HY := Lib.hid (And.intro by2 (And.intro kU2 (And.intro hU2 hy)))
        clear by2 kU2 hU2 hy u1 KV
        go_wp2_with fail
        rw [HY.out.2.2.1, HY.out.2.2.2]
        refine (HRR.out U2).mono ?_
        rintro e U3 hR
        unfold Read6 headV at hR
        obtain ⟨rfl, u3⟩ := hR
        have u4 : KeptIn (· < U2.heap.size) U2 (U3.alloc (.cells #[.int .u64 g1, .int .i64 r1, .int .i64 s1, .int .i64 f1, .int .i64 c1] 25)) := u3.alloc (fun _ h => h) _
        have hy4 := HY.out.1.kept u4 HY.out.1.lt
        have c0 := hy4.c0; have c1' := hy4.c1; have c2 := hy4.c2; have c3 := hy4.c3; have c4 := hy4.c4
        simp only at c0 c1' c2 c3 c4
        obtain ⟨U4, hU4⟩ : ∃ U, U3.alloc (.cells #[.int .u64 g1, .int .i64 r1, .int .i64 s1, .int .i64 f1, .int .i64 c1] 25) = U := ⟨_, rfl⟩
        have kU4 : KeptIn (· < W1.heap.size) W1 U4 := by rw [← hU4]; exact HY.out.2.1.step u4
        have HU4 := Lib.hid (And.intro kU4 hU4)
        clear hy4 u4 u3 kU4 hU4 HY
        go_wp2_with fail
        rw [HU4.out.2]
        clear c0 c1' c2 c3 c4
        refine (HNA.out U4 HU4.out.1).mono ?_
        rintro e U5 hR
        unfold NewH headV at hR
        obtain ⟨rfl, u5⟩ := hR
        obtain ⟨z, hz⟩ : ∃ z, U5.heap.size = z := ⟨_, rfl⟩
        obtain ⟨U6, hU6⟩ : ∃ U, U5.alloc (.cells #[.int .u64 g2, .int .i64 r2, .int .i64 s2, .int .i64 f2, .int .i64 c2'] 25) = U := ⟨_, rfl⟩
        have bz : BoxH z ⟨g2, r2, s2, f2, c2'⟩ U6 := by rw [← hU6, ← hz]; exact BoxH.new U5 ⟨g2, r2, s2, f2, c2'⟩
        have kU6 : KeptIn (· < W1.heap.size) W1 U6 := by rw [← hU6]; exact (HU4.out.1.step u5).alloc (fun _ h => h) _
        have HZ := Lib.hid (And.intro bz (And.intro kU6 (And.intro hU6 hz)))
        clear bz kU6 hU6 hz u5 HU4
        go_wp2_with fail
        rw [HZ.out.2.2.1, HZ.out.2.2.2]
        refine (HNR.out U6).mono ?_
        rintro e U7 hR
        unfold New6 headV at hR
        obtain ⟨rfl, u7⟩ := hR
        have u8 : KeptIn (· < U6.heap.size) U6 (U7.alloc (.cells #[.int .u64 g2, .int .i64 r2, .int .i64 s2, .int .i64 f2, .int .i64 c2'] 25)) := u7.alloc (fun _ h => h) _
        have hz4 := HZ.out.1.kept u8 HZ.out.1.lt
        have c0 := hz4.c0; have c1' := hz4.c1; have c2 := hz4.c2; have c3 := hz4.c3; have c4 := hz4.c4
        simp only at c0 c1' c2 c3 c4
        have HF := Lib.hid (HK1.out.step (HZ.out.2.1.step u8))
        clear hz4 u8 u7 HZ
        go_wp2_with fail
        go_ret
        exact ⟨rfl, HF.out⟩
      | true =>
        have HNA := Lib.hid CNA; have HNR := Lib.hid CNR
        clear CNA CNR
        refine (HRA.out _ KV).mono ?_
        rintro e U1 hR
        unfold ReadH headV at hR
        obtain ⟨rfl, u1⟩ := hR
        simp only []
        obtain ⟨y, hy⟩ : ∃ y, U1.heap.size = y := ⟨_, rfl⟩
        obtain ⟨U2, hU2⟩ : ∃ U, U1.alloc (.cells #[.int .u64 g1, .int .i64 r1, .int .i64 s1, .int .i64 f1, .int .i64 c1] 25) = U := ⟨_, rfl⟩
        have by2 : BoxH y ⟨g1, r1, s1, f1, c1⟩ U2 := by rw [← hU2, ← hy]; exact BoxH.new U1 ⟨g1, r1, s1, f1, c1⟩
        have kU2 : KeptIn (· < W1.heap.size) W1 U2 := by rw [← hU2]; exact (KV.step u1).alloc (fun _ h => h) _
        have HY := Lib.hid (And.intro by2 (And.intro kU2 (And.intro hU2 hy)))
        clear by2 kU2 hU2 hy u1 KV
        go_wp2_with fail
        rw [HY.out.2.2.1, HY.out.2.2.2]
        refine (HRR.out U2).mono ?_
        rintro e U3 hR
        unfold Read6 headV at hR
        obtain ⟨rfl, u3⟩ := hR
        have u4 : KeptIn (· < U2.heap.size) U2 (U3.alloc (.cells #[.int .u64 g1, .int .i64 r1, .int .i64 s1, .int .i64 f1, .int .i64 c1] 25)) := u3.alloc (fun _ h => h) _
        have hy4 := HY.out.1.kept u4 HY.out.1.lt
        have c0 := hy4.c0; have c1' := hy4.c1; have c2 := hy4.c2; have c3 := hy4.c3; have c4 := hy4.c4
        simp only at c0 c1' c2 c3 c4
        obtain ⟨U4, hU4⟩ : ∃ U, U3.alloc (.cells #[.int .u64 g1, .int .i64 r1, .int .i64 s1, .int .i64 f1, .int .i64 c1] 25) = U := ⟨_, rfl⟩
        have kU4 : KeptIn (· < W1.heap.size) W1 U4 := by rw [← hU4]; exact HY.out.2.1.step u4
        have HU4 := Lib.hid (And.intro kU4 hU4)
        clear hy4 u4 u3 kU4 hU4 HY
        go_wp2_with fail
        rw [HU4.out.2]
        clear c0 c1' c2 c3 c4
        refine (HNA.out U4 HU4.out.1).mono ?_
        rintro e U5 hR
        unfold NewH headV at hR
        obtain ⟨rfl, u5⟩ := hR
        obtain ⟨z, hz⟩ : ∃ z, U5.heap.size = z := ⟨_, rfl⟩
        obtain ⟨U6, hU6⟩ : ∃ U, U5.alloc (.cells #[.int .u64 g2, .int .i64 r2, .int .i64 s2, .int .i64 f2, .int .i64 c2'] 25) = U := ⟨_, rfl⟩
        have bz : BoxH z ⟨g2, r2, s2, f2, c2'⟩ U6 := by rw [← hU6, ← hz]; exact BoxH.new U5 ⟨g2, r2, s2, f2, c2'⟩
        have kU6 : KeptIn (· < W1.heap.size) W1 U6 := by rw [← hU6]; exact (HU4.out.1.step u5).alloc (fun _ h => h) _
        have HZ := Lib.hid (And.intro bz (And.intro kU6 (And.intro hU6 hz)))
        clear bz kU6 hU6 hz u5 HU4
        go_wp2_with fail
        rw [HZ.out.2.2.1, HZ.out.2.2.2]
        refine (HNR.out U6).mono ?_
        rintro e U7 hR
        unfold New6 headV at hR
        obtain ⟨rfl, u7⟩ := hR
        have u8 : KeptIn (· < U6.heap.size) U6 (U7.alloc (.cells #[.int .u64 g2, .int .i64 r2, .int .i64 s2, .int .i64 f2, .int .i64 c2'] 25)) := u7.alloc (fun _ h => h) _
        have hz4 := HZ.out.1.kept u8 HZ.out.1.lt
        have c0 := hz4.c0; have c1' := hz4.c1; have c2 := hz4.c2; have c3 := hz4.c3; have c4 := hz4.c4
        simp only at c0 c1' c2 c3 c4
        have HF := Lib.hid (HK1.out.step (HZ.out.2.1.step u8))
        clear hz4 u8 u7 HZ
        go_wp2_with fail
        go_ret
        exact ⟨rfl, HF.out⟩
    | true =>
      have HRA := Lib.hid CRA; have HRR := Lib.hid CRR
      clear CRA CRR
      cases j2 with
      | false =>
        have HNA := Lib.hid CNA; have HNR := Lib.hid CNR
        clear CNA CNR
        refine (HRA.out _ KV).mono ?_
        rintro e U1 hR
        unfold ReadH headV at hR
        obtain ⟨rfl, u1⟩ := hR
        simp only []
        obtain ⟨y, hy⟩ : ∃ y, U1.heap.size = y := ⟨_, rfl⟩
        obtain ⟨U2, hU2⟩ : ∃ U, U1.alloc (.cells #[.int .u64 g1, .int .i64 r1, .int .i64 s1, .int .i64 f1, .int .i64 c1] 25) = U := ⟨_, rfl⟩
        have by2 : BoxH y ⟨g1, r1, s1, f1, c1⟩ U2 := by rw [← hU2, ← hy]; exact BoxH.new U1 ⟨g1, r1, s1, f1, c1⟩
        have kU2 : KeptIn (· < W1.heap.size) W1 U2 := by rw [← hU2]; exact (KV.step u1).alloc (fun _ h => h) _
        have HY := Lib.hid (And.intro by2 (And.intro kU2 (And.intro hU2 hy)))
        clear by2 kU2 hU2 hy u1 KV
        go_wp2_with fail
        rw [HY.out.2.2.1, HY.out.2.2.2]
        refine (HRR.out U2).mono ?_
        rintro e U3 hR
        unfold Read6 headV at hR
        obtain ⟨rfl, u3⟩ := hR
        have u4 : KeptIn (· < U2.heap.size) U2 (U3.alloc (.cells #[.int .u64 g1, .int .i64 r1, .int .i64 s1, .int .i64 f1, .int .i64 c1] 25)) := u3.alloc (fun _ h => h) _
        have hy4 := HY.out.1.kept u4 HY.out.1.lt
        have c0 := hy4.c0; have c1' := hy4.c1; have c2 := hy4.c2; have c3 := hy4.c3; have c4 := hy4.c4
        simp only at c0 c1' c2 c3 c4
        obtain ⟨U4, hU4⟩ : ∃ U, U3.alloc (.cells #[.int .u64 g1, .int .i64 r1, .int .i64 s1, .int .i64 f1, .int .i64 c1] 25) = U := ⟨_, rfl⟩
        have kU4 : KeptIn (· < W1.heap.size) W1 U4 := by rw [← hU4]; exact HY.out.2.1.step u4
        have HU4 := Lib.hid (And.intro kU4 hU4)
        clear hy4 u4 u3 kU4 hU4 HY
        go_wp2_with fail
        rw [HU4.out.2]
        clear c0 c1' c2 c3 c4
        refine (HNA.out U4 HU4.out.1).mono ?_
        rintro e U5 hR
        unfold NewH headV at hR
        obtain ⟨rfl, u5⟩ := hR
        obtain ⟨z, hz⟩ : ∃ z, U5.heap.size = z := ⟨_, rfl⟩
        obtain ⟨U6, hU6⟩ : ∃ U, U5.alloc (.cells #[.int .u64 g2, .int .i64 r2, .int .i64 s2, .int .i64 f2, .int .i64 c2'] 25) = U := ⟨_, rfl⟩
        have bz : BoxH z ⟨g2, r2, s2, f2, c2'⟩ U6 := by rw [← hU6, ← hz]; exact BoxH.new U5 ⟨g2, r2, s2, f2, c2'⟩
        have kU6 : KeptIn (· < W1.heap.size) W1 U6 := by rw [← hU6]; exact (HU4.out.1.step u5).alloc (fun _ h => h) _
        have HZ := Lib.hid (And.intro bz (And.intro kU6 (And.intro hU6 hz)))
        clear bz kU6 hU6 hz u5 HU4
        go_wp2_with fail
        rw [HZ.out.2.2.1, HZ.out.2.2.2]
        refine (HNR.out U6).mono ?_
        rintro e U7 hR
        unfold New6 headV at hR
        obtain ⟨rfl, u7⟩ := hR
        have u8 : KeptIn (· < U6.heap.size) U6 (U7.alloc (.cells #[.int .u64 g2, .int .i64 r2, .int .i64 s2, .int .i64 f2, .int .i64 c2'] 25)) := u7.alloc (fun _ h => h) _
        have hz4 := HZ.out.1.kept u8 HZ.out.1.lt
        have c0 := hz4.c0; have c1' := hz4.c1; have c2 := hz4.c2; have c3 := hz4.c3; have c4 := hz4.c4
        simp only at c0 c1' c2 c3 c4
        have HF := Lib.hid (HK1.out.step (HZ.out.2.1.step u8))
        clear hz4 u8 u7 HZ
        go_wp2_with fail
        go_ret
        exact ⟨rfl, HF.out⟩
      | true =>
        have HNA := Lib.hid CNA; have HNR := Lib.hid CNR
        clear CNA CNR
        refine (HRA.out _ KV).mono ?_
        rintro e U1 hR
        unfold ReadH headV at hR
        obtain ⟨rfl, u1⟩ := hR
        simp only []
        obtain ⟨y, hy⟩ : ∃ y, U1.heap.size = y := ⟨_, rfl⟩
        obtain ⟨U2, hU2⟩ : ∃ U, U1.alloc (.cells #[.int .u64 g1, .int .i64 r1, .int .i64 s1, .int .i64 f1, .int .i64 c1] 25) = U := ⟨_, rfl⟩
        have by2 : BoxH y ⟨g1, r1, s1, f1, c1⟩ U2 := by rw [← hU2, ← hy]; exact BoxH.new U1 ⟨g1, r1, s1, f1, c1⟩
        have kU2 : KeptIn (· < W1.heap.size) W1 U2 := by rw [← hU2]; exact (KV.step u1).alloc (fun _ h => h) _
        have HY := Lib.hid (And.intro by2 (And.intro kU2 (And.intro hU2 hy)))
        clear by2 kU2 hU2 hy u1 KV
        go_wp2_with fail
        rw [HY.out.2.2.1, HY.out.2.2.2]
        refine (HRR.out U2).mono ?_
        rintro e U3 hR
        unfold Read6 headV at hR
        obtain ⟨rfl, u3⟩ := hR
        have u4 : KeptIn (· < U2.heap.size) U2 (U3.alloc (.cells #[.int .u64 g1, .int .i64 r1, .int .i64 s1, .int .i64 f1, .int .i64 c1] 25)) := u3.alloc (fun _ h => h) _
        have hy4 := HY.out.1.kept u4 HY.out.1.lt
        have c0 := hy4.c0; have c1' := hy4.c1; have c2 := hy4.c2; have c3 := hy4.c3; have c4 := hy4.c4
        simp only at c0 c1' c2 c3 c4
        obtain ⟨U4, hU4⟩ : ∃ U, U3.alloc (.cells #[.int .u64 g1, .int .i64 r1, .int .i64 s1, .int .i64 f1, .int .i64 c1] 25) = U := ⟨_, rfl⟩
        have kU4 : KeptIn (· < W1.heap.size) W1 U4 := by rw [← hU4]; exact HY.out.2.1.step u4
        have HU4 := Lib.hid (And.intro kU4 hU4)
        clear hy4 u4 u3 kU4 hU4 HY
        go_wp2_with fail
        rw [HU4.out.2]
        clear c0 c1' c2 c3 c4
        refine (HNA.out U4 HU4.out.1).mono ?_
        rintro e U5 hR
        unfold NewH headV at hR
        obtain ⟨rfl, u5⟩ := hR
        obtain ⟨z, hz⟩ : ∃ z, U5.heap.size = z := ⟨_, rfl⟩
        obtain ⟨U6, hU6⟩ : ∃ U, U5.alloc (.cells #[.int .u64 g2, .int .i64 r2, .int .i64 s2, .int .i64 f2, .int .i64 c2'] 25) = U := ⟨_, rfl⟩
        have bz : BoxH z ⟨g2, r2, s2, f2, c2'⟩ U6 := by rw [← hU6, ← hz]; exact BoxH.new U5 ⟨g2, r2, s2, f2, c2'⟩
        have kU6 : KeptIn (· < W1.heap.size) W1 U6 := by rw [← hU6]; exact (HU4.out.1.step u5).alloc (fun _ h => h) _
        have HZ := Lib.hid (And.intro bz (And.intro kU6 (And.intro hU6 hz)))
        clear bz kU6 hU6 hz u5 HU4
        go_wp2_with fail
        rw [HZ.out.2.2.1, HZ.out.2.2.2]
        refine (HNR.out U6).mono ?_
        rintro e U7 hR
        unfold New6 headV at hR
        obtain ⟨rfl, u7⟩ := hR
        have u8 : KeptIn (· < U6.heap.size) U6 (U7.alloc (.cells #[.int .u64 g2, .int .i64 r2, .int .i64 s2, .int .i64 f2, .int .i64 c2'] 25)) := u7.alloc (fun _ h => h) _
        have hz4 := HZ.out.1.kept u8 HZ.out.1.lt
        have c0 := hz4.c0; have c1' := hz4.c1; have c2 := hz4.c2; have c3 := hz4.c3; have c4 := hz4.c4
        simp only at c0 c1' c2 c3 c4
        have HF := Lib.hid (HK1.out.step (HZ.out.2.1.step u8))
        clear hz4 u8 u7 HZ
        go_wp2_with fail
        go_ret
        exact ⟨rfl, HF.out⟩

theorem headExactR (g : Nat) (r s f c : Int) (sa sb : ByteArray) (w : World) (_ : True) (wa : sa.size ≤ maxLen) (wb : sb.size ≤ maxLen) (hT : Tab w) :
    Calls Tryd.prog 3 #[headV ⟨g, r, s, f, c⟩, .string sa, .string sb] w fun e w' => e = .returned (.bool true) ∧ KeptIn (· < w.heap.size) w w' := headExactW g r s f c sa sb w wa wb hT

end Go.Proofs.YtdogchpeimgkjaaDoor
