/- tiercelaw05.LeafExact: it answers true whatever the input; what was there stands. -/
import Derived.Test.YtaahgdmlacpjbaaDoorAw5
set_option linter.unusedVariables false
namespace Go.Proofs.YtaahgdmlacpjbaaDoor
open Go.RowKit

set_option maxHeartbeats 4000000 in
set_option maxRecDepth 100000 in
theorem leafExactW (lv : Int) (a : Option Addr) (cap : Nat) (ps : Pairs) (s : ByteArray) (w : World) (w0 : IsPs w a ps) (w1 : s.size ≤ maxLen) (hT : Tab w) :
    Calls Tryd.prog 3 #[leafV lv a ps.length cap, .string s] w fun e w' => e = .returned (.bool true) ∧ KeptIn (· < w.heap.size) w w' := by
  obtain ⟨l, rfl⟩ : ∃ l : List UInt8, s = ⟨l.toArray⟩ := ⟨s.data.toList, (Lib.mk_data s).symm⟩
  have hl : (l.length : Int) ≤ 9223372036854775807 := by
    rw [show (⟨l.toArray⟩ : ByteArray).size = l.length from List.size_toArray ..] at w1
    unfold maxLen at w1; omega
  clear w1
  obtain ⟨n, hn⟩ : ∃ n, ps.length = n := ⟨_, rfl⟩
  have hm : (n : Int) ≤ 9223372036854775807 := by have := w0.len; unfold maxLen at this; omega
  obtain ⟨W1, hW1⟩ : ∃ W1, w.alloc (.cells #[.int .i64 lv, .slice a n cap] 24) = W1 := ⟨_, rfl⟩
  have hk1 : KeptIn (· < w.heap.size) w W1 := by rw [← hW1]; exact (KeptIn.refl _ w).alloc (fun _ h => h) _
  have hb1 := BoxL.new w lv a n cap
  rw [hW1] at hb1
  have HBX := Lib.hid fun V (k : KeptIn (· < W1.heap.size) W1 V) => And.intro (hb1.kept k hb1.lt).c0 (hb1.kept k hb1.lt).c1
  have hp1 := w0.old hk1
  have HT1 := Lib.hid (hT.old hk1)
  have CA := Lib.hid (awake5 W1 HT1.out)
  have HG := Lib.hid fun V (k : KeptIn (· < W1.heap.size) W1 V) => lfGood lv a cap ps V (hp1.old k)
  have HG5 := Lib.hid fun V (k : KeptIn (· < W1.heap.size) W1 V) => r5Good lv a cap ps V (hp1.old k)
  have HB0 := Lib.hid fun hg V (k : KeptIn (· < W1.heap.size) W1 V) => lfBytesBad lv a cap ps V (hp1.old k) hg
  have HB1 := Lib.hid fun hg V (k : KeptIn (· < W1.heap.size) W1 V) => lfBytesOk lv a cap ps V (HT1.out.old k) (hp1.old k) hg
  have HB5 := Lib.hid fun hg V (k : KeptIn (· < W1.heap.size) W1 V) => r5Bytes lv a cap ps V (hp1.old k) hg
  unfold leafV at *
  rw [hn] at HG HG5 HB0 HB1 HB5 ⊢
  have HK1 := Lib.hid hk1
  obtain ⟨cz0, cz1⟩ := HBX.out W1 (KeptIn.refl _ _)
  clear hT hk1 w0 hn hb1 hp1
  by_cases h40 : (40 : Int) < (n : Int)
  · go_enter Tryd.func3, Tryd.ntmps3
    go_wp2_with (go_at_call 6; refine CA.out.mono ?_; rintro e V1 ⟨rfl, kv⟩; obtain ⟨c01, c11⟩ := HBX.out V1 kv)
    go_ret
    exact ⟨rfl, HK1.out.step kv⟩
  have h40' : (n : Int) ≤ 40 := by omega
  by_cases h300 : (300 : Int) < (l.length : Int)
  · go_enter Tryd.func3, Tryd.ntmps3
    go_wp2_with (go_at_call 6; refine CA.out.mono ?_; rintro e V1 ⟨rfl, kv⟩; obtain ⟨c01, c11⟩ := HBX.out V1 kv)
    go_ret
    exact ⟨rfl, HK1.out.step kv⟩
  have h300' : (l.length : Int) ≤ 300 := by omega
  have HLL := Lib.hid (show l.length ≤ 65536 by omega)
  clear h40 h300
  cases hg : goodN lv ps with
  | false =>
    simp only [hg] at HG HG5
    have HBB := Lib.hid fun V k => HB0.out hg V k
    clear HB0 HB1 HB5 hg
    go_enter Tryd.func3, Tryd.ntmps3
    go_wp2_with (first
      | (go_at_call 6; refine CA.out.mono ?_; clear CA; rintro e V1 ⟨rfl, kv⟩; obtain ⟨c01, c11⟩ := HBX.out V1 kv)
      | (go_at_call 7; refine (HBB.out V1 kv).mono ?_; clear HBB; rintro e V2 ⟨rfl, k2⟩; obtain ⟨c02, c12⟩ := HBX.out V2 (kv.step k2)))
    have kv2 := kv.step k2
    have HGG := Lib.hid fun V (k : KeptIn (· < V2.heap.size) V2 V) => (HG.out V (kv2.step k)).mono (R' := fun e w' => e = .returned (.bool false) ∧ KeptIn (· < V2.heap.size) V2 w') fun e w' ⟨he, h⟩ => ⟨he, k.step h⟩
    have HGR := Lib.hid fun V (k : KeptIn (· < V2.heap.size) V2 V) => (HG5.out V (kv2.step k)).mono (R' := fun e w' => e = .returned (.bool false) ∧ KeptIn (· < V2.heap.size) V2 w') fun e w' ⟨he, h⟩ => ⟨he, k.step h⟩
    have HB2 := Lib.hid fun V (k : KeptIn (· < V2.heap.size) V2 V) => HBX.out V (kv2.step k)
    go_region_held3 (fun w' => w'.cell? ⟨w.heap.size, 0, none⟩ = some (.int .i64 lv) ∧ w'.cell? ⟨w.heap.size, 1, none⟩ = some (.slice a n cap))
      (first | exact ⟨c02, c12⟩ | exact HB2.out _ hk)
      (first
        | (go_at_call 8; refine (HGG.out _ ((KeptIn.refl _ _).drew)).mono ?_; rintro e w' ⟨rfl, hk⟩)
        | (go_at_call 8; refine (HGG.out _ hk).mono ?_; rintro e w' ⟨rfl, hk⟩)
        | (go_at_call 9; refine (HGR.out _ hk).mono ?_; rintro e w' ⟨rfl, hk⟩)
        | (go_at_call 9; refine (HGR.out _ ((KeptIn.refl _ _).drew)).mono ?_; rintro e w' ⟨rfl, hk⟩))
    have hk3 := hk
    obtain ⟨c03, c13⟩ := HB2.out w' hk
    go_wp2_with (go_at_call 9; refine (HGR.out w' hk3).mono ?_; clear HGR; rintro e V4 ⟨rfl, k4⟩)
    have KV := kv2.step k4
    -- both read what the page tells
    have HRL := Lib.hid fun V (k : KeptIn (· < W1.heap.size) W1 V) => lfRead l V (HT1.out.old k) HLL.out
    have HRR := Lib.hid fun V => r5Read l V HLL.out
    unfold ReadL leafV at HRL
    unfold leafV at HRR
    cases his : isN l with
    | false =>
      simp only [his, Bool.false_eq_true, if_false] at HRL HRR
      clear his
      go_wp2_with (go_at_call 11; refine (HRL.out _ KV).mono ?_; rintro e V6 ⟨ax, capx, rfl, px, k6⟩)
      obtain ⟨W6, hW6⟩ : ∃ W, V6.alloc (.cells #[.int .i64 (lvR l), .slice ax (psR l).length capx] 24) = W := ⟨_, rfl⟩
      have k66 : KeptIn (· < V6.heap.size) V6 W6 := by rw [← hW6]; exact (KeptIn.refl _ _).alloc (fun _ h => h) _
      have bx := BoxL.new V6 (lvR l) ax (psR l).length capx
      obtain ⟨xx, hxx⟩ : ∃ x, V6.heap.size = x := ⟨_, rfl⟩
      rw [hW6, hxx] at bx
      have px6 := px.old k66
      have KW6 := (KV.step k6).step k66
      have HX6 := Lib.hid (And.intro bx (And.intro px6 KW6))
      clear px k66 bx px6 KW6 k6 HRL
      rw [hW6]
      refine (HRR.out W6).mono ?_
      rintro e V7 ⟨ay, capy, rfl, py, k7⟩
      obtain ⟨W8, hW8⟩ : ∃ W, V7.alloc (.cells #[.int .i64 (lvR l), .slice ay (psR l).length capy] 24) = W := ⟨_, rfl⟩
      have k78 : KeptIn (· < V7.heap.size) V7 W8 := by rw [← hW8]; exact (KeptIn.refl _ _).alloc (fun _ h => h) _
      have by8 := BoxL.new V7 (lvR l) ay (psR l).length capy
      obtain ⟨yy, hyy⟩ : ∃ x, V7.heap.size = x := ⟨_, rfl⟩
      rw [hW8, hyy] at by8
      have k68 := k7.step k78
      have bx8 := HX6.out.1.kept k68 HX6.out.1.lt
      have CS := r5Same (lvR l) (lvR l) ax ay capx capy (psR l) (psR l) W8 (HX6.out.2.1.old k68) (py.old k78)
      simp only at CS
      have x0 := bx8.c0; have x1 := bx8.c1; have y0 := by8.c0; have y1 := by8.c1
      have KW8 := HX6.out.2.2.step k68
      have HCS := Lib.hid CS
      unfold leafV at HCS
      have HK8 := Lib.hid KW8
      clear py k78 by8 k7 k68 bx8 CS KW8 HX6 HRR KV
      generalize lvR l = lr at *
      generalize (psR l).length = nr at *
      go_wp2_with (go_at_call 13; refine HCS.out.mono ?_; rintro e V9 ⟨rfl, k9⟩)
      go_ret
      exact ⟨rfl, HK1.out.step (HK8.out.step k9)⟩
    | true =>
      simp only [his, if_true] at HRL HRR
      clear his
      go_wp2_with (go_at_call 11; refine (HRL.out _ KV).mono ?_; rintro e V6 ⟨ax, capx, rfl, px, k6⟩)
      obtain ⟨W6, hW6⟩ : ∃ W, V6.alloc (.cells #[.int .i64 (lvR l), .slice ax (psR l).length capx] 24) = W := ⟨_, rfl⟩
      have k66 : KeptIn (· < V6.heap.size) V6 W6 := by rw [← hW6]; exact (KeptIn.refl _ _).alloc (fun _ h => h) _
      have bx := BoxL.new V6 (lvR l) ax (psR l).length capx
      obtain ⟨xx, hxx⟩ : ∃ x, V6.heap.size = x := ⟨_, rfl⟩
      rw [hW6, hxx] at bx
      have px6 := px.old k66
      have KW6 := (KV.step k6).step k66
      have HX6 := Lib.hid (And.intro bx (And.intro px6 KW6))
      clear px k66 bx px6 KW6 k6 HRL
      rw [hW6]
      refine (HRR.out W6).mono ?_
      rintro e V7 ⟨ay, capy, rfl, py, k7⟩
      obtain ⟨W8, hW8⟩ : ∃ W, V7.alloc (.cells #[.int .i64 (lvR l), .slice ay (psR l).length capy] 24) = W := ⟨_, rfl⟩
      have k78 : KeptIn (· < V7.heap.size) V7 W8 := by rw [← hW8]; exact (KeptIn.refl _ _).alloc (fun _ h => h) _
      have by8 := BoxL.new V7 (lvR l) ay (psR l).length capy
      obtain ⟨yy, hyy⟩ : ∃ x, V7.heap.size = x := ⟨_, rfl⟩
      rw [hW8, hyy] at by8
      have k68 := k7.step k78
      have bx8 := HX6.out.1.kept k68 HX6.out.1.lt
      have CS := r5Same (lvR l) (lvR l) ax ay capx capy (psR l) (psR l) W8 (HX6.out.2.1.old k68) (py.old k78)
      simp only at CS
      have x0 := bx8.c0; have x1 := bx8.c1; have y0 := by8.c0; have y1 := by8.c1
      have KW8 := HX6.out.2.2.step k68
      have HCS := Lib.hid CS
      unfold leafV at HCS
      have HK8 := Lib.hid KW8
      clear py k78 by8 k7 k68 bx8 CS KW8 HX6 HRR KV
      generalize lvR l = lr at *
      generalize (psR l).length = nr at *
      go_wp2_with (go_at_call 13; refine HCS.out.mono ?_; rintro e V9 ⟨rfl, k9⟩)
      go_ret
      exact ⟨rfl, HK1.out.step (HK8.out.step k9)⟩
  | true =>
    simp only [hg] at HG HG5
    obtain ⟨bb, hbb⟩ : ∃ bb, bytesN lv ps = bb := ⟨_, rfl⟩
    have HBB := Lib.hid fun V k => HB1.out hg V k
    have HBR := Lib.hid fun V k => HB5.out hg V k
    simp only [hbb] at HBB HBR
    have q1 : (bb == bb) = true := beq_self_eq_true bb
    clear HB0 HB1 HB5 hg hbb
    go_enter Tryd.func3, Tryd.ntmps3
    go_wp2_with (first
      | (go_at_call 6; refine CA.out.mono ?_; clear CA; rintro e V1 ⟨rfl, kv⟩; obtain ⟨c01, c11⟩ := HBX.out V1 kv)
      | (go_at_call 7; refine (HBB.out V1 kv).mono ?_; clear HBB; rintro e V2 ⟨rfl, k2⟩; obtain ⟨c02, c12⟩ := HBX.out V2 (kv.step k2)))
    have kv2 := kv.step k2
    have HGG := Lib.hid fun V (k : KeptIn (· < V2.heap.size) V2 V) => (HG.out V (kv2.step k)).mono (R' := fun e w' => e = .returned (.bool true) ∧ KeptIn (· < V2.heap.size) V2 w') fun e w' ⟨he, h⟩ => ⟨he, k.step h⟩
    have HGR := Lib.hid fun V (k : KeptIn (· < V2.heap.size) V2 V) => (HG5.out V (kv2.step k)).mono (R' := fun e w' => e = .returned (.bool true) ∧ KeptIn (· < V2.heap.size) V2 w') fun e w' ⟨he, h⟩ => ⟨he, k.step h⟩
    have HB2 := Lib.hid fun V (k : KeptIn (· < V2.heap.size) V2 V) => HBX.out V (kv2.step k)
    go_region_held3 (fun w' => w'.cell? ⟨w.heap.size, 0, none⟩ = some (.int .i64 lv) ∧ w'.cell? ⟨w.heap.size, 1, none⟩ = some (.slice a n cap))
      (first | exact ⟨c02, c12⟩ | exact HB2.out _ hk)
      (first
        | (go_at_call 8; refine (HGG.out _ ((KeptIn.refl _ _).drew)).mono ?_; rintro e w' ⟨rfl, hk⟩)
        | (go_at_call 8; refine (HGG.out _ hk).mono ?_; rintro e w' ⟨rfl, hk⟩)
        | (go_at_call 9; refine (HGR.out _ hk).mono ?_; rintro e w' ⟨rfl, hk⟩)
        | (go_at_call 9; refine (HGR.out _ ((KeptIn.refl _ _).drew)).mono ?_; rintro e w' ⟨rfl, hk⟩))
    have hk3 := hk
    obtain ⟨c03, c13⟩ := HB2.out w' hk
    go_wp2_with (first
      | (go_at_call 9; refine (HGR.out w' hk3).mono ?_; clear HGR; rintro e V4 ⟨rfl, k4⟩; obtain ⟨c04, c14⟩ := HB2.out V4 k4)
      | (go_at_call 10; refine (HBR.out V4 (kv2.step k4)).mono ?_; clear HBR; rintro e V5 ⟨rfl, k5⟩))
    have KV := (kv2.step k4).step k5
    -- both read what the page tells
    have HRL := Lib.hid fun V (k : KeptIn (· < W1.heap.size) W1 V) => lfRead l V (HT1.out.old k) HLL.out
    have HRR := Lib.hid fun V => r5Read l V HLL.out
    unfold ReadL leafV at HRL
    unfold leafV at HRR
    cases his : isN l with
    | false =>
      simp only [his, Bool.false_eq_true, if_false] at HRL HRR
      clear his
      go_wp2_with (go_at_call 11; refine (HRL.out _ KV).mono ?_; rintro e V6 ⟨ax, capx, rfl, px, k6⟩)
      obtain ⟨W6, hW6⟩ : ∃ W, V6.alloc (.cells #[.int .i64 (lvR l), .slice ax (psR l).length capx] 24) = W := ⟨_, rfl⟩
      have k66 : KeptIn (· < V6.heap.size) V6 W6 := by rw [← hW6]; exact (KeptIn.refl _ _).alloc (fun _ h => h) _
      have bx := BoxL.new V6 (lvR l) ax (psR l).length capx
      obtain ⟨xx, hxx⟩ : ∃ x, V6.heap.size = x := ⟨_, rfl⟩
      rw [hW6, hxx] at bx
      have px6 := px.old k66
      have KW6 := (KV.step k6).step k66
      have HX6 := Lib.hid (And.intro bx (And.intro px6 KW6))
      clear px k66 bx px6 KW6 k6 HRL
      rw [hW6]
      refine (HRR.out W6).mono ?_
      rintro e V7 ⟨ay, capy, rfl, py, k7⟩
      obtain ⟨W8, hW8⟩ : ∃ W, V7.alloc (.cells #[.int .i64 (lvR l), .slice ay (psR l).length capy] 24) = W := ⟨_, rfl⟩
      have k78 : KeptIn (· < V7.heap.size) V7 W8 := by rw [← hW8]; exact (KeptIn.refl _ _).alloc (fun _ h => h) _
      have by8 := BoxL.new V7 (lvR l) ay (psR l).length capy
      obtain ⟨yy, hyy⟩ : ∃ x, V7.heap.size = x := ⟨_, rfl⟩
      rw [hW8, hyy] at by8
      have k68 := k7.step k78
      have bx8 := HX6.out.1.kept k68 HX6.out.1.lt
      have CS := r5Same (lvR l) (lvR l) ax ay capx capy (psR l) (psR l) W8 (HX6.out.2.1.old k68) (py.old k78)
      simp only at CS
      have x0 := bx8.c0; have x1 := bx8.c1; have y0 := by8.c0; have y1 := by8.c1
      have KW8 := HX6.out.2.2.step k68
      have HCS := Lib.hid CS
      unfold leafV at HCS
      have HK8 := Lib.hid KW8
      clear py k78 by8 k7 k68 bx8 CS KW8 HX6 HRR KV
      generalize lvR l = lr at *
      generalize (psR l).length = nr at *
      go_wp2_with (go_at_call 13; refine HCS.out.mono ?_; rintro e V9 ⟨rfl, k9⟩)
      go_ret
      exact ⟨rfl, HK1.out.step (HK8.out.step k9)⟩
    | true =>
      simp only [his, if_true] at HRL HRR
      clear his
      go_wp2_with (go_at_call 11; refine (HRL.out _ KV).mono ?_; rintro e V6 ⟨ax, capx, rfl, px, k6⟩)
      obtain ⟨W6, hW6⟩ : ∃ W, V6.alloc (.cells #[.int .i64 (lvR l), .slice ax (psR l).length capx] 24) = W := ⟨_, rfl⟩
      have k66 : KeptIn (· < V6.heap.size) V6 W6 := by rw [← hW6]; exact (KeptIn.refl _ _).alloc (fun _ h => h) _
      have bx := BoxL.new V6 (lvR l) ax (psR l).length capx
      obtain ⟨xx, hxx⟩ : ∃ x, V6.heap.size = x := ⟨_, rfl⟩
      rw [hW6, hxx] at bx
      have px6 := px.old k66
      have KW6 := (KV.step k6).step k66
      have HX6 := Lib.hid (And.intro bx (And.intro px6 KW6))
      clear px k66 bx px6 KW6 k6 HRL
      rw [hW6]
      refine (HRR.out W6).mono ?_
      rintro e V7 ⟨ay, capy, rfl, py, k7⟩
      obtain ⟨W8, hW8⟩ : ∃ W, V7.alloc (.cells #[.int .i64 (lvR l), .slice ay (psR l).length capy] 24) = W := ⟨_, rfl⟩
      have k78 : KeptIn (· < V7.heap.size) V7 W8 := by rw [← hW8]; exact (KeptIn.refl _ _).alloc (fun _ h => h) _
      have by8 := BoxL.new V7 (lvR l) ay (psR l).length capy
      obtain ⟨yy, hyy⟩ : ∃ x, V7.heap.size = x := ⟨_, rfl⟩
      rw [hW8, hyy] at by8
      have k68 := k7.step k78
      have bx8 := HX6.out.1.kept k68 HX6.out.1.lt
      have CS := r5Same (lvR l) (lvR l) ax ay capx capy (psR l) (psR l) W8 (HX6.out.2.1.old k68) (py.old k78)
      simp only at CS
      have x0 := bx8.c0; have x1 := bx8.c1; have y0 := by8.c0; have y1 := by8.c1
      have KW8 := HX6.out.2.2.step k68
      have HCS := Lib.hid CS
      unfold leafV at HCS
      have HK8 := Lib.hid KW8
      clear py k78 by8 k7 k68 bx8 CS KW8 HX6 HRR KV
      generalize lvR l = lr at *
      generalize (psR l).length = nr at *
      go_wp2_with (go_at_call 13; refine HCS.out.mono ?_; rintro e V9 ⟨rfl, k9⟩)
      go_ret
      exact ⟨rfl, HK1.out.step (HK8.out.step k9)⟩

end Go.Proofs.YtaahgdmlacpjbaaDoor
