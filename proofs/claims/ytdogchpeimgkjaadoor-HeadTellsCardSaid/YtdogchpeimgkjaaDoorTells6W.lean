/- tiercelaw06.HeadTells: it answers true whatever the input; what was there stands. -/
import Derived.Test.YtdogchpeimgkjaaDoorTwo6
set_option linter.unusedVariables false
namespace Go.Proofs.YtdogchpeimgkjaaDoor
open Go.RowKit

attribute [local go_sem] eqTwo

theorem ifF {α : Type} (a b : α) : (if false = true then a else b) = b := rfl

/-- Turned, or not. -/
def turnB (b : Bool) (t : List UInt8) (k m i : Nat) : List UInt8 := if b then turn t k m i else t

/-- What is read and found newest of two sectors of which each may be turned. -/
theorem tells_math (ha hb : Hd) (ga : goodH ha = true) (gb : goodH hb = true) (k m : Nat) (hk : k ≤ 12) (hm : m < 4294967296) (h0 : m ≠ 0) (p q : Bool) :
    (isH (turnB p (bytesH ha) k m 4) = !p ∧ headR (turnB p (bytesH ha) k m 4) = if p then noH else ha) ∧
    newH (turnB p (bytesH ha) k m 4) (turnB q (bytesH hb) k m 4) = if p then (if q then (noH, 0, false) else (hb, 1, true)) else (if q then (ha, 0, true) else if hb.gen ≤ ha.gen then (ha, 0, true) else (hb, 1, true)) := by
  have a1 := isH_bytes ha ga
  have b1 := isH_bytes hb gb
  have a2 := isH_turn ha ga k m hk hm h0
  have b2 := isH_turn hb gb k m hk hm h0
  cases p <;> cases q <;> simp [turnB, newH, headR, a1.1, a1.2, b1.1, b1.2, a2, b2]

set_option maxHeartbeats 4000000 in
set_option maxRecDepth 100000 in
theorem headTellsW (ga : Nat) (ra sa fa ca : Int) (gb : Nat) (rb sb fb cb : Int) (at_ mk wh : Int) (w : World) (wa : (Lit.int .i64 at_).wf = true) (wm : (Lit.int .u32 mk).wf = true) (ww : (Lit.int .i64 wh).wf = true) (hT : Tab w) :
    Calls Tryd.prog 4 #[headV ⟨ga, ra, sa, fa, ca⟩, headV ⟨gb, rb, sb, fb, cb⟩, .int .i64 at_, .int .u32 mk, .int .i64 wh] w fun e w' => e = .returned (.bool true) ∧ KeptIn (· < w.heap.size) w w' := by
  have ba := bounds_i64 wa
  have bm := bounds_u32 wm
  obtain ⟨mm, rfl⟩ := Int.eq_ofNat_of_zero_le bm.1
  have m0 : (0 : Int) ≤ (mm : Int) := by omega
  have m1 : (mm : Int) ≤ 4294967295 := by omega
  obtain ⟨k, hk13, hkk⟩ := modWalk at_ 13 (by decide) (by decide)
  have hkk' : wrap64 ((IntKind.u64.wrap at_).tmod 13) = (k : Int) := hkk
  obtain ⟨p, q, hw1, hw2, hw3⟩ := and_four wh
  clear wa wm ba bm hkk ww
  obtain ⟨x, hx⟩ : ∃ x, w.heap.size = x := ⟨_, rfl⟩
  obtain ⟨W1, hW1⟩ : ∃ W1, w.alloc (.cells #[.int .u64 ga, .int .i64 ra, .int .i64 sa, .int .i64 fa, .int .i64 ca] 25) = W1 := ⟨_, rfl⟩
  obtain ⟨W2, hW2⟩ : ∃ W2, W1.alloc (.cells #[.int .u64 gb, .int .i64 rb, .int .i64 sb, .int .i64 fb, .int .i64 cb] 25) = W2 := ⟨_, rfl⟩
  have hk1 : KeptIn (· < w.heap.size) w W1 := by rw [← hW1]; exact (KeptIn.refl _ w).alloc (fun _ h => h) _
  have hk12 : KeptIn (· < W1.heap.size) W1 W2 := by rw [← hW2]; exact (KeptIn.refl _ W1).alloc (fun _ h => h) _
  have hk2 := hk1.step hk12
  have hs1 : W1.heap.size = x + 1 := by rw [← hW1, ← hx]; simp
  have hba0 : BoxH x ⟨ga, ra, sa, fa, ca⟩ W1 := by rw [← hW1, ← hx]; exact BoxH.new w ⟨ga, ra, sa, fa, ca⟩
  have hba := hba0.kept hk12 hba0.lt
  have hbb : BoxH (x + 1) ⟨gb, rb, sb, fb, cb⟩ W2 := by rw [← hW2, ← hs1]; exact BoxH.new W1 ⟨gb, rb, sb, fb, cb⟩
  have hT2 := hT.old hk2
  have HT2 := Lib.hid hT2
  have CA := Lib.hid (awake6 W2 hT2)
  have HBX : Hid (∀ V, KeptIn (· < W2.heap.size) W2 V → V.cell? ⟨x, 0, none⟩ = some (.int .u64 ga) ∧ V.cell? ⟨x, 1, none⟩ = some (.int .i64 ra) ∧ V.cell? ⟨x, 2, none⟩ = some (.int .i64 sa) ∧ V.cell? ⟨x, 3, none⟩ = some (.int .i64 fa) ∧ V.cell? ⟨x, 4, none⟩ = some (.int .i64 ca) ∧
      V.cell? ⟨x + 1, 0, none⟩ = some (.int .u64 gb) ∧ V.cell? ⟨x + 1, 1, none⟩ = some (.int .i64 rb) ∧ V.cell? ⟨x + 1, 2, none⟩ = some (.int .i64 sb) ∧ V.cell? ⟨x + 1, 3, none⟩ = some (.int .i64 fb) ∧ V.cell? ⟨x + 1, 4, none⟩ = some (.int .i64 cb)) := Lib.hid fun V k => by
    have h := hba.kept k hba.lt
    have h' := hbb.kept k hbb.lt
    exact ⟨h.c0, h.c1, h.c2, h.c3, h.c4, h'.c0, h'.c1, h'.c2, h'.c3, h'.c4⟩
  have HW2 := Lib.hid (And.intro hW1 (And.intro hW2 hx))
  have HK2 := Lib.hid hk2
  have HKK := Lib.hid (And.intro hk13 hkk')
  have HPQ := Lib.hid (And.intro hw1 (And.intro hw2 hw3))
  clear hT hk1 hk12 hk2 hs1 hba0 hba hbb hT2 hW1 hW2 hx hk13 hkk' hw1 hw2 hw3
  unfold headV
  simp only
  cases hga : goodH ⟨ga, ra, sa, fa, ca⟩ with
  | false =>
    have HA0 := fun V (_ : KeptIn (· < W2.heap.size) W2 V) => hdBytesBad ⟨ga, ra, sa, fa, ca⟩ hga V
    unfold headV at HA0
    simp only at HA0
    have HBA := Lib.hid HA0
    clear HA0 hga
    cases hgb : goodH ⟨gb, rb, sb, fb, cb⟩ with
    | false =>
      have HB0 := fun V (_ : KeptIn (· < W2.heap.size) W2 V) => hdBytesBad ⟨gb, rb, sb, fb, cb⟩ hgb V
      unfold headV at HB0
      simp only at HB0
      have HBB := Lib.hid HB0
      clear HB0 hgb
      go_enter Tryd.func4, Tryd.ntmps4
      go_wp2_with (go_at_call 6; rw [HW2.out.1, HW2.out.2.1, HW2.out.2.2]; refine CA.out.mono ?_; rintro e V1 ⟨rfl, kv⟩; obtain ⟨c01, c11, c21, c31, c41, d01, d11, d21, d31, d41⟩ := HBX.out V1 kv)
      refine (HBA.out V1 kv).mono ?_
      rintro e V2 ⟨rfl, k2⟩
      clear c01 c11 c21 c31 c41 d01 d11 d21 d31 d41
      obtain ⟨c01, c11, c21, c31, c41, d01, d11, d21, d31, d41⟩ := HBX.out V2 (kv.step k2)
      go_wp2_with fail
      refine (HBB.out V2 (kv.step k2)).mono ?_
      rintro e V3 ⟨rfl, k3⟩
      clear c01 c11 c21 c31 c41 d01 d11 d21 d31 d41
      have kv3 := (kv.step k2).step k3
      go_wp2_with fail
      go_ret
      exact ⟨rfl, HK2.out.step kv3⟩
    | true =>
      have HB0 := fun V (k : KeptIn (· < W2.heap.size) W2 V) => hdBytesOk ⟨gb, rb, sb, fb, cb⟩ hgb V (HT2.out.old k)
      unfold headV at HB0
      simp only at HB0
      have HBB := Lib.hid HB0
      clear HB0 hgb
      go_enter Tryd.func4, Tryd.ntmps4
      go_wp2_with (go_at_call 6; rw [HW2.out.1, HW2.out.2.1, HW2.out.2.2]; refine CA.out.mono ?_; rintro e V1 ⟨rfl, kv⟩; obtain ⟨c01, c11, c21, c31, c41, d01, d11, d21, d31, d41⟩ := HBX.out V1 kv)
      refine (HBA.out V1 kv).mono ?_
      rintro e V2 ⟨rfl, k2⟩
      clear c01 c11 c21 c31 c41 d01 d11 d21 d31 d41
      obtain ⟨c01, c11, c21, c31, c41, d01, d11, d21, d31, d41⟩ := HBX.out V2 (kv.step k2)
      go_wp2_with fail
      refine (HBB.out V2 (kv.step k2)).mono ?_
      rintro e V3 ⟨rfl, k3⟩
      clear c01 c11 c21 c31 c41 d01 d11 d21 d31 d41
      have kv3 := (kv.step k2).step k3
      go_wp2_with fail
      go_ret
      exact ⟨rfl, HK2.out.step kv3⟩
  | true =>
    have HA0 := fun V (k : KeptIn (· < W2.heap.size) W2 V) => hdBytesOk ⟨ga, ra, sa, fa, ca⟩ hga V (HT2.out.old k)
    cases hgb : goodH ⟨gb, rb, sb, fb, cb⟩ with
    | false =>
      have HB0 := fun V (_ : KeptIn (· < W2.heap.size) W2 V) => hdBytesBad ⟨gb, rb, sb, fb, cb⟩ hgb V
      unfold headV at HA0 HB0
      simp only at HA0 HB0
      have HBA := Lib.hid HA0
      have HBB := Lib.hid HB0
      clear HA0 HB0 hga hgb
      go_enter Tryd.func4, Tryd.ntmps4
      go_wp2_with (go_at_call 6; rw [HW2.out.1, HW2.out.2.1, HW2.out.2.2]; refine CA.out.mono ?_; rintro e V1 ⟨rfl, kv⟩; obtain ⟨c01, c11, c21, c31, c41, d01, d11, d21, d31, d41⟩ := HBX.out V1 kv)
      refine (HBA.out V1 kv).mono ?_
      rintro e V2 ⟨rfl, k2⟩
      clear c01 c11 c21 c31 c41 d01 d11 d21 d31 d41
      obtain ⟨c01, c11, c21, c31, c41, d01, d11, d21, d31, d41⟩ := HBX.out V2 (kv.step k2)
      go_wp2_with fail
      refine (HBB.out V2 (kv.step k2)).mono ?_
      rintro e V3 ⟨rfl, k3⟩
      clear c01 c11 c21 c31 c41 d01 d11 d21 d31 d41
      have kv3 := (kv.step k2).step k3
      go_wp2_with fail
      go_ret
      exact ⟨rfl, HK2.out.step kv3⟩
    | true =>
      have HB0 := fun V (k : KeptIn (· < W2.heap.size) W2 V) => hdBytesOk ⟨gb, rb, sb, fb, cb⟩ hgb V (HT2.out.old k)
      unfold headV at HA0 HB0
      simp only at HA0 HB0
      have ls := bytesH_length ⟨ga, ra, sa, fa, ca⟩
      have lt := bytesH_length ⟨gb, rb, sb, fb, cb⟩
      have HMM : Hid (mm ≠ 0 → ∀ p q, (isH (turnB p (bytesH ⟨ga, ra, sa, fa, ca⟩) k mm 4) = !p ∧ headR (turnB p (bytesH ⟨ga, ra, sa, fa, ca⟩) k mm 4) = if p then noH else ⟨ga, ra, sa, fa, ca⟩) ∧
        newH (turnB p (bytesH ⟨ga, ra, sa, fa, ca⟩) k mm 4) (turnB q (bytesH ⟨gb, rb, sb, fb, cb⟩) k mm 4) = if p then (if q then (noH, 0, false) else (⟨gb, rb, sb, fb, cb⟩, 1, true)) else (if q then (⟨ga, ra, sa, fa, ca⟩, 0, true) else if gb ≤ ga then (⟨ga, ra, sa, fa, ca⟩, 0, true) else (⟨gb, rb, sb, fb, cb⟩, 1, true))) := Lib.hid fun h0 p q =>
        tells_math ⟨ga, ra, sa, fa, ca⟩ ⟨gb, rb, sb, fb, cb⟩ hga hgb k mm (by have := HKK.out.1; omega) (by omega) h0 p q
      obtain ⟨s, hs⟩ : ∃ s, bytesH ⟨ga, ra, sa, fa, ca⟩ = s := ⟨_, rfl⟩
      obtain ⟨t, ht⟩ : ∃ t, bytesH ⟨gb, rb, sb, fb, cb⟩ = t := ⟨_, rfl⟩
      simp only [hs, ht] at HA0 HB0 HMM ls lt
      have HBA := Lib.hid HA0
      have HBB := Lib.hid HB0
      clear HA0 HB0 hga hgb hs ht
      by_cases hm0 : mm = 0
      · subst hm0
        clear HMM
        go_enter Tryd.func4, Tryd.ntmps4
        go_wp2_with (go_at_call 6; rw [HW2.out.1, HW2.out.2.1, HW2.out.2.2]; refine CA.out.mono ?_; rintro e V1 ⟨rfl, kv⟩; obtain ⟨c01, c11, c21, c31, c41, d01, d11, d21, d31, d41⟩ := HBX.out V1 kv)
        refine (HBA.out V1 kv).mono ?_
        rintro e V2 ⟨rfl, k2⟩
        clear c01 c11 c21 c31 c41 d01 d11 d21 d31 d41
        obtain ⟨c01, c11, c21, c31, c41, d01, d11, d21, d31, d41⟩ := HBX.out V2 (kv.step k2)
        go_wp2_with fail
        refine (HBB.out V2 (kv.step k2)).mono ?_
        rintro e V3 ⟨rfl, k3⟩
        clear c01 c11 c21 c31 c41 d01 d11 d21 d31 d41
        have kv3 := (kv.step k2).step k3
        go_wp2_with fail
        go_ret
        exact ⟨rfl, HK2.out.step kv3⟩
      · have mz : ((mm : Int) == 0) = false := by rw [beq_eq_false_iff_ne]; omega
        have HM0 := Lib.hid hm0
        have HLS := Lib.hid (And.intro ls lt)
        clear hm0
        go_enter Tryd.func4, Tryd.ntmps4
        go_wp2_with (go_at_call 6; rw [HW2.out.1, HW2.out.2.1, HW2.out.2.2]; refine CA.out.mono ?_; rintro e V1 ⟨rfl, kv⟩; obtain ⟨c01, c11, c21, c31, c41, d01, d11, d21, d31, d41⟩ := HBX.out V1 kv)
        refine (HBA.out V1 kv).mono ?_
        rintro e V2 ⟨rfl, k2⟩
        clear c01 c11 c21 c31 c41 d01 d11 d21 d31 d41
        obtain ⟨c01, c11, c21, c31, c41, d01, d11, d21, d31, d41⟩ := HBX.out V2 (kv.step k2)
        go_wp2_with fail
        refine (HBB.out V2 (kv.step k2)).mono ?_
        rintro e V3 ⟨rfl, k3⟩
        clear c01 c11 c21 c31 c41 d01 d11 d21 d31 d41
        have kv3 := (kv.step k2).step k3
        obtain ⟨capc, W8, hconv, hhas, hkc⟩ := conv_has s V3
        obtain ⟨capd, W9, hconv2, hhas2, hkc2⟩ := conv_has t W8
        rw [ls] at hconv
        rw [lt] at hconv2
        have k0i : (0 : Int) ≤ (k : Int) := by omega
        have k1i : (k : Int) ≤ 12 := by have := HKK.out.1; omega
        obtain ⟨gc, hgc⟩ : ∃ n, V3.heap.size = n := ⟨_, rfl⟩
        obtain ⟨gd, hgd⟩ : ∃ n, W8.heap.size = n := ⟨_, rfl⟩
        have ngc := hhas.lt (by intro e; rw [e] at ls; cases ls)
        have hW28 := kv3.size
        rw [hgc] at hhas hconv ngc hW28
        rw [hgd] at hhas2 hconv2 ngc
        have HH0 : Hid (Has W9 gc s ∧ Has W9 gd t ∧ KeptIn (· < W2.heap.size) W2 W9) := Lib.hid ⟨hhas.keep hkc2, hhas2, (kv3.step hkc).step hkc2⟩
        have HGG : Hid (gc ≠ gd ∧ ¬ gc < W2.heap.size ∧ ¬ gd < W2.heap.size) := Lib.hid ⟨by omega, by omega, by omega⟩
        clear hhas hhas2 hkc hkc2 hgc hgd ngc hW28 kv3 k2 k3 kv ls lt
        cases p with
        | false =>
          cases q with
          | false =>
            have b1 : bits .and .i64 wh 1 = 0 := HPQ.out.1
            have b2 : bits .and .i64 wh 2 = 0 := HPQ.out.2.1
            have b3 : bits .and .i64 wh 3 = 0 := HPQ.out.2.2
            clear HPQ
            go_wp2_with fail
            rw [HKK.out.2]
            go_loopw [18] (fun c V => ∃ (i : Nat) (V' : World), V' = V ∧ i ≤ 4 ∧ c = .int .i64 i ∧ Hid (Has V gc (turnB false s k mm i) ∧ Has V gd (turnB false t k mm i) ∧ KeptIn (· < W2.heap.size) W2 V)) (fun c _ => 4 - (intOf c).toNat)
            case atStart => exact ⟨0, _, rfl, by decide, rfl, by first | exact HH0 | (have h := HH0.out; exact Lib.hid ⟨by first | exact h.1 | (rw [turnB, if_pos rfl, turn_zero]; exact h.1), by first | exact h.2.1 | (rw [turnB, if_pos rfl, turn_zero]; exact h.2.1), h.2.2⟩)⟩
            case round =>
              obtain ⟨i, V, rfl, hi, rfl, HV⟩ := hrel
              clear HH0 hconv hconv2
              by_cases hlt : i < 4
              · have i0 : (0 : Int) ≤ (i : Int) := by omega
                have i1 : (i : Int) < 4 := by omega
                have i2 : (k : Int) + (i : Int) < 16 := by omega
                go_wp2_with fail
                go_roundw
                case rel => exact ⟨i + 1, _, rfl, by omega, by go_num, HV⟩
                case measure => simp [intOf]; omega
              · obtain rfl : i = 4 := by omega
                have lu : (turnB false s k mm 4).length = 16 := by rw [← HLS.out.1]; first | rfl | exact turn_length s k mm (by have := HKK.out.1; have := HLS.out.1; omega) (by omega)
                have lv : (turnB false t k mm 4).length = 16 := by rw [← HLS.out.2]; first | rfl | exact turn_length t k mm (by have := HKK.out.1; have := HLS.out.2; omega) (by omega)
                obtain ⟨⟨hri, hro⟩, hnn⟩ := HMM.out HM0.out false false
                have hTV := HT2.out.old HV.out.2.2
                have hback1 := conv_back _ gc capc V HV.out.1
                have hback2 := conv_back _ gd capd V HV.out.2.1
                rw [lu] at hback1
                rw [lv] at hback2
                have CN := hdNewest (turnB false s k mm 4) (turnB false t k mm 4) V hTV (by omega) (by omega)
                clear HMM
                generalize turnB false s k mm 4 = u at *
                generalize turnB false t k mm 4 = v at *
                replace hnn : newH u v = if gb ≤ ga then (⟨ga, ra, sa, fa, ca⟩, 0, true) else (⟨gb, rb, sb, fb, cb⟩, 1, true) := hnn
                by_cases hle : gb ≤ ga
                · rw [if_pos hle] at hnn
                  rw [hnn] at CN
                  have hle' : (gb : Int) ≤ (ga : Int) := by omega
                  clear hle
                  have hri2 : isH u = true := hri
                  have hro2 : headR u = ⟨ga,ra,sa,fa,ca⟩ := hro
                  simp only [if_true] at CN
                  have CR := fun V' (hk : KeptIn (· < V.heap.size) V V') => hdRead u V' (hTV.old hk) (by omega)
                  rw [hri2, hro2] at CR
                  simp only [if_true] at CR
                  have HCN := Lib.hid CN
                  have HCR := Lib.hid CR
                  have HHV := Lib.hid (And.intro HV.out.1 HV.out.2.2)
                  have HLU := Lib.hid lu
                  clear CN CR hTV hri hro hri2 hro2 hnn lu lv HV
                  go_wp2_with fail
                  refine HCN.out.mono ?_
                  rintro e U1 hR
                  unfold NewH headV at hR
                  try unfold noH at hR
                  obtain ⟨rfl, u1⟩ := hR
                  obtain ⟨y, hy⟩ : ∃ y, U1.heap.size = y := ⟨_, rfl⟩
                  have kU2 : KeptIn (· < V.heap.size) V (U1.alloc (.cells #[.int .u64 ga, .int .i64 ra, .int .i64 sa, .int .i64 fa, .int .i64 ca] 25)) := u1.alloc (fun _ h => h) _
                  have hb3 := conv_back u gc capc _ (HHV.out.1.keep kU2)
                  rw [HLU.out] at hb3
                  have by2 : BoxH y ⟨ga, ra, sa, fa, ca⟩ (U1.alloc (.cells #[.int .u64 ga, .int .i64 ra, .int .i64 sa, .int .i64 fa, .int .i64 ca] 25)) := by rw [← hy]; exact BoxH.new U1 ⟨ga, ra, sa, fa, ca⟩
                  obtain ⟨U2, hU2⟩ : ∃ U, U1.alloc (.cells #[.int .u64 ga, .int .i64 ra, .int .i64 sa, .int .i64 fa, .int .i64 ca] 25) = U := ⟨_, rfl⟩
                  rw [hU2] at by2 kU2
                  have HU := Lib.hid (And.intro by2 (And.intro kU2 (And.intro hU2 hy)))
                  clear by2 kU2 hU2 hy u1 hback1 hback2
                  go_wp2_with fail
                  rw [HU.out.2.2.1, HU.out.2.2.2]
                  refine (HCR.out U2 HU.out.2.1).mono ?_
                  rintro e U3 hR
                  unfold ReadH headV at hR
                  try unfold noH at hR
                  obtain ⟨rfl, u3⟩ := hR
                  have u4 : KeptIn (· < U2.heap.size) U2 (U3.alloc (.cells #[.int .u64 ga, .int .i64 ra, .int .i64 sa, .int .i64 fa, .int .i64 ca] 25)) := u3.alloc (fun _ h => h) _
                  have hy4 := HU.out.1.kept u4 HU.out.1.lt
                  obtain ⟨U4, hU4⟩ : ∃ U, U3.alloc (.cells #[.int .u64 ga, .int .i64 ra, .int .i64 sa, .int .i64 fa, .int .i64 ca] 25) = U := ⟨_, rfl⟩
                  rw [hU4] at hy4 u4
                  have y0 : U4.cell? ⟨y, 0, none⟩ = some (.int .u64 ga) := hy4.c0
                  have y1 : U4.cell? ⟨y, 1, none⟩ = some (.int .i64 ra) := hy4.c1
                  have y2 : U4.cell? ⟨y, 2, none⟩ = some (.int .i64 sa) := hy4.c2
                  have y3 : U4.cell? ⟨y, 3, none⟩ = some (.int .i64 fa) := hy4.c3
                  have y4 : U4.cell? ⟨y, 4, none⟩ = some (.int .i64 ca) := hy4.c4
                  have kU4 : KeptIn (· < W2.heap.size) W2 U4 := HHV.out.2.step (HU.out.2.1.step u4)
                  obtain ⟨c01, c11, c21, c31, c41, d01, d11, d21, d31, d41⟩ := HBX.out U4 kU4
                  rw [← hU4] at y0 y1 y2 y3 y4 c01 c11 c21 c31 c41 d01 d11 d21 d31 d41
                  have HF := Lib.hid (HK2.out.step kU4)
                  have HFU := Lib.hid hU4
                  clear hy4 u4 u3 kU4 hU4 HU hb3
                  go_wp2_with fail
                  go_ret
                  rw [HFU.out]
                  exact ⟨rfl, HF.out⟩
                · rw [if_neg hle] at hnn
                  rw [hnn] at CN
                  have hle' : ¬ (gb : Int) ≤ (ga : Int) := by omega
                  clear hle
                  have hri2 : isH u = true := hri
                  have hro2 : headR u = ⟨ga,ra,sa,fa,ca⟩ := hro
                  simp only [if_true] at CN
                  have CR := fun V' (hk : KeptIn (· < V.heap.size) V V') => hdRead u V' (hTV.old hk) (by omega)
                  rw [hri2, hro2] at CR
                  simp only [if_true] at CR
                  have HCN := Lib.hid CN
                  have HCR := Lib.hid CR
                  have HHV := Lib.hid (And.intro HV.out.1 HV.out.2.2)
                  have HLU := Lib.hid lu
                  clear CN CR hTV hri hro hri2 hro2 hnn lu lv HV
                  go_wp2_with fail
                  refine HCN.out.mono ?_
                  rintro e U1 hR
                  unfold NewH headV at hR
                  try unfold noH at hR
                  obtain ⟨rfl, u1⟩ := hR
                  obtain ⟨y, hy⟩ : ∃ y, U1.heap.size = y := ⟨_, rfl⟩
                  have kU2 : KeptIn (· < V.heap.size) V (U1.alloc (.cells #[.int .u64 gb, .int .i64 rb, .int .i64 sb, .int .i64 fb, .int .i64 cb] 25)) := u1.alloc (fun _ h => h) _
                  have hb3 := conv_back u gc capc _ (HHV.out.1.keep kU2)
                  rw [HLU.out] at hb3
                  have by2 : BoxH y ⟨gb, rb, sb, fb, cb⟩ (U1.alloc (.cells #[.int .u64 gb, .int .i64 rb, .int .i64 sb, .int .i64 fb, .int .i64 cb] 25)) := by rw [← hy]; exact BoxH.new U1 ⟨gb, rb, sb, fb, cb⟩
                  obtain ⟨U2, hU2⟩ : ∃ U, U1.alloc (.cells #[.int .u64 gb, .int .i64 rb, .int .i64 sb, .int .i64 fb, .int .i64 cb] 25) = U := ⟨_, rfl⟩
                  rw [hU2] at by2 kU2
                  have HU := Lib.hid (And.intro by2 (And.intro kU2 (And.intro hU2 hy)))
                  clear by2 kU2 hU2 hy u1 hback1 hback2
                  go_wp2_with fail
                  rw [HU.out.2.2.1, HU.out.2.2.2]
                  refine (HCR.out U2 HU.out.2.1).mono ?_
                  rintro e U3 hR
                  unfold ReadH headV at hR
                  try unfold noH at hR
                  obtain ⟨rfl, u3⟩ := hR
                  have u4 : KeptIn (· < U2.heap.size) U2 (U3.alloc (.cells #[.int .u64 ga, .int .i64 ra, .int .i64 sa, .int .i64 fa, .int .i64 ca] 25)) := u3.alloc (fun _ h => h) _
                  have hy4 := HU.out.1.kept u4 HU.out.1.lt
                  obtain ⟨U4, hU4⟩ : ∃ U, U3.alloc (.cells #[.int .u64 ga, .int .i64 ra, .int .i64 sa, .int .i64 fa, .int .i64 ca] 25) = U := ⟨_, rfl⟩
                  rw [hU4] at hy4 u4
                  have y0 : U4.cell? ⟨y, 0, none⟩ = some (.int .u64 gb) := hy4.c0
                  have y1 : U4.cell? ⟨y, 1, none⟩ = some (.int .i64 rb) := hy4.c1
                  have y2 : U4.cell? ⟨y, 2, none⟩ = some (.int .i64 sb) := hy4.c2
                  have y3 : U4.cell? ⟨y, 3, none⟩ = some (.int .i64 fb) := hy4.c3
                  have y4 : U4.cell? ⟨y, 4, none⟩ = some (.int .i64 cb) := hy4.c4
                  have kU4 : KeptIn (· < W2.heap.size) W2 U4 := HHV.out.2.step (HU.out.2.1.step u4)
                  obtain ⟨c01, c11, c21, c31, c41, d01, d11, d21, d31, d41⟩ := HBX.out U4 kU4
                  rw [← hU4] at y0 y1 y2 y3 y4 c01 c11 c21 c31 c41 d01 d11 d21 d31 d41
                  have HF := Lib.hid (HK2.out.step kU4)
                  have HFU := Lib.hid hU4
                  clear hy4 u4 u3 kU4 hU4 HU hb3
                  go_wp2_with fail
                  go_ret
                  rw [HFU.out]
                  exact ⟨rfl, HF.out⟩
          | true =>
            have b1 : bits .and .i64 wh 1 = 0 := HPQ.out.1
            have b2 : bits .and .i64 wh 2 = 2 := HPQ.out.2.1
            have b3 : bits .and .i64 wh 3 = 2 := HPQ.out.2.2
            clear HPQ
            go_wp2_with fail
            rw [HKK.out.2]
            go_loopw [18] (fun c V => ∃ (i : Nat) (V' : World), V' = V ∧ i ≤ 4 ∧ c = .int .i64 i ∧ Hid (Has V gc (turnB false s k mm i) ∧ Has V gd (turnB true t k mm i) ∧ KeptIn (· < W2.heap.size) W2 V)) (fun c _ => 4 - (intOf c).toNat)
            case atStart => exact ⟨0, _, rfl, by decide, rfl, by first | exact HH0 | (have h := HH0.out; exact Lib.hid ⟨by first | exact h.1 | (rw [turnB, if_pos rfl, turn_zero]; exact h.1), by first | exact h.2.1 | (rw [turnB, if_pos rfl, turn_zero]; exact h.2.1), h.2.2⟩)⟩
            case round =>
              obtain ⟨i, V, rfl, hi, rfl, HV⟩ := hrel
              clear HH0 hconv hconv2
              by_cases hlt : i < 4
              · have i0 : (0 : Int) ≤ (i : Int) := by omega
                have i1 : (i : Int) < 4 := by omega
                have i2 : (k : Int) + (i : Int) < 16 := by omega
                have hki : k + i < t.length := by have := HKK.out.1; have := HLS.out; omega
                obtain ⟨pp, qq, hp, h0, h1⟩ := turn_split t k mm i hki
                have hv : Has V gd (turn t k mm i) := HV.out.2.1
                rw [h0] at hv
                obtain ⟨hcell, hfz⟩ := hv pp.length t[k + i] (by simp)
                rw [hp] at hcell hfz
                have hset := hv.set (t[k + i] ^^^ UInt8.ofNat (mm / 2 ^ (8 * i)))
                rw [← h1, hp] at hset
                obtain ⟨z, hz⟩ : ∃ z : Nat, t[k + i].toNat = z := ⟨_, rfl⟩
                have hz8 : z < 256 := by rw [← hz]; exact t[k + i].toNat_lt
                rw [UInt8.toNat_xor, hz] at hset
                rw [hz] at hcell
                have hbyte : (UInt8.ofNat (mm / 2 ^ (8 * i))).toNat < 256 := UInt8.toNat_lt _
                have hbx := u8_xor_nat z (UInt8.ofNat (mm / 2 ^ (8 * i))).toNat hz8 hbyte
                have z0 : (0 : Int) ≤ (z : Int) := by omega
                have z1 : (z : Int) ≤ 255 := by omega
                have HS := Lib.hid hset; have HBXX := Lib.hid hbx; have HX8 := Lib.hid hz8
                clear hv h0 h1 hp hset hz hbyte hbx hz8
                go_wp2_with fail
                have hval : bits .xor .u8 (z : Int) ((mm : Int) / 2 ^ (8 * i) % 256) = ((z ^^^ (UInt8.ofNat (mm / 2 ^ (8 * i))).toNat : Nat) : Int) := by
                  have e : (((UInt8.ofNat (mm / 2 ^ (8 * i))).toNat : Nat) : Int) = (mm : Int) / 2 ^ (8 * i) % 256 := by rw [ofNat_byte]; simp
                  rw [← e]
                  exact HBXX.out
                have HVAL := Lib.hid hval
                clear hval
                go_region
                rw [HVAL.out]
                have S6 : Hid (Has (V.setCell ⟨gd, k + i, none⟩ (.int .u8 ((z ^^^ (UInt8.ofNat (mm / 2 ^ (8 * i))).toNat : Nat) : Int))).drew gc (turnB false s k mm (i + 1)) ∧ Has (V.setCell ⟨gd, k + i, none⟩ (.int .u8 ((z ^^^ (UInt8.ofNat (mm / 2 ^ (8 * i))).toNat : Nat) : Int))).drew gd (turn t k mm (i + 1)) ∧ KeptIn (· < W2.heap.size) W2 (V.setCell ⟨gd, k + i, none⟩ (.int .u8 ((z ^^^ (UInt8.ofNat (mm / 2 ^ (8 * i))).toNat : Nat) : Int))).drew) :=
                  Lib.hid ⟨HV.out.1.other HGG.out.1 _, HS.out, (HV.out.2.2.setCell (p := ⟨gd, k + i, none⟩) HGG.out.2.2 _).drew⟩
                generalize (V.setCell ⟨gd, k + i, none⟩ (.int .u8 ((z ^^^ (UInt8.ofNat (mm / 2 ^ (8 * i))).toNat : Nat) : Int))).drew = V2' at *
                clear HS HVAL HBXX hcell hfz HX8 z0 z1
                go_wp2_with fail
                go_roundw
                case rel => exact ⟨i + 1, _, rfl, by omega, by go_num, S6⟩
                case measure => simp [intOf]; omega
              · obtain rfl : i = 4 := by omega
                have lu : (turnB false s k mm 4).length = 16 := by rw [← HLS.out.1]; first | rfl | exact turn_length s k mm (by have := HKK.out.1; have := HLS.out.1; omega) (by omega)
                have lv : (turnB true t k mm 4).length = 16 := by rw [← HLS.out.2]; first | rfl | exact turn_length t k mm (by have := HKK.out.1; have := HLS.out.2; omega) (by omega)
                obtain ⟨⟨hri, hro⟩, hnn⟩ := HMM.out HM0.out false true
                have hTV := HT2.out.old HV.out.2.2
                have hback1 := conv_back _ gc capc V HV.out.1
                have hback2 := conv_back _ gd capd V HV.out.2.1
                rw [lu] at hback1
                rw [lv] at hback2
                have CN := hdNewest (turnB false s k mm 4) (turnB true t k mm 4) V hTV (by omega) (by omega)
                clear HMM
                generalize turnB false s k mm 4 = u at *
                generalize turnB true t k mm 4 = v at *
                replace hnn : newH u v = (⟨ga, ra, sa, fa, ca⟩, 0, true) := hnn
                rw [hnn] at CN
                have hri2 : isH u = true := hri
                have hro2 : headR u = ⟨ga,ra,sa,fa,ca⟩ := hro
                simp only [if_true] at CN
                have CR := fun V' (hk : KeptIn (· < V.heap.size) V V') => hdRead u V' (hTV.old hk) (by omega)
                rw [hri2, hro2] at CR
                simp only [if_true] at CR
                have HCN := Lib.hid CN
                have HCR := Lib.hid CR
                have HHV := Lib.hid (And.intro HV.out.1 HV.out.2.2)
                have HLU := Lib.hid lu
                clear CN CR hTV hri hro hri2 hro2 hnn lu lv HV
                go_wp2_with fail
                refine HCN.out.mono ?_
                rintro e U1 hR
                unfold NewH headV at hR
                try unfold noH at hR
                obtain ⟨rfl, u1⟩ := hR
                obtain ⟨y, hy⟩ : ∃ y, U1.heap.size = y := ⟨_, rfl⟩
                have kU2 : KeptIn (· < V.heap.size) V (U1.alloc (.cells #[.int .u64 ga, .int .i64 ra, .int .i64 sa, .int .i64 fa, .int .i64 ca] 25)) := u1.alloc (fun _ h => h) _
                have hb3 := conv_back u gc capc _ (HHV.out.1.keep kU2)
                rw [HLU.out] at hb3
                have by2 : BoxH y ⟨ga, ra, sa, fa, ca⟩ (U1.alloc (.cells #[.int .u64 ga, .int .i64 ra, .int .i64 sa, .int .i64 fa, .int .i64 ca] 25)) := by rw [← hy]; exact BoxH.new U1 ⟨ga, ra, sa, fa, ca⟩
                obtain ⟨U2, hU2⟩ : ∃ U, U1.alloc (.cells #[.int .u64 ga, .int .i64 ra, .int .i64 sa, .int .i64 fa, .int .i64 ca] 25) = U := ⟨_, rfl⟩
                rw [hU2] at by2 kU2
                have HU := Lib.hid (And.intro by2 (And.intro kU2 (And.intro hU2 hy)))
                clear by2 kU2 hU2 hy u1 hback1 hback2
                go_wp2_with fail
                rw [HU.out.2.2.1, HU.out.2.2.2]
                refine (HCR.out U2 HU.out.2.1).mono ?_
                rintro e U3 hR
                unfold ReadH headV at hR
                try unfold noH at hR
                obtain ⟨rfl, u3⟩ := hR
                have u4 : KeptIn (· < U2.heap.size) U2 (U3.alloc (.cells #[.int .u64 ga, .int .i64 ra, .int .i64 sa, .int .i64 fa, .int .i64 ca] 25)) := u3.alloc (fun _ h => h) _
                have hy4 := HU.out.1.kept u4 HU.out.1.lt
                obtain ⟨U4, hU4⟩ : ∃ U, U3.alloc (.cells #[.int .u64 ga, .int .i64 ra, .int .i64 sa, .int .i64 fa, .int .i64 ca] 25) = U := ⟨_, rfl⟩
                rw [hU4] at hy4 u4
                have y0 : U4.cell? ⟨y, 0, none⟩ = some (.int .u64 ga) := hy4.c0
                have y1 : U4.cell? ⟨y, 1, none⟩ = some (.int .i64 ra) := hy4.c1
                have y2 : U4.cell? ⟨y, 2, none⟩ = some (.int .i64 sa) := hy4.c2
                have y3 : U4.cell? ⟨y, 3, none⟩ = some (.int .i64 fa) := hy4.c3
                have y4 : U4.cell? ⟨y, 4, none⟩ = some (.int .i64 ca) := hy4.c4
                have kU4 : KeptIn (· < W2.heap.size) W2 U4 := HHV.out.2.step (HU.out.2.1.step u4)
                obtain ⟨c01, c11, c21, c31, c41, d01, d11, d21, d31, d41⟩ := HBX.out U4 kU4
                rw [← hU4] at y0 y1 y2 y3 y4 c01 c11 c21 c31 c41 d01 d11 d21 d31 d41
                have HF := Lib.hid (HK2.out.step kU4)
                have HFU := Lib.hid hU4
                clear hy4 u4 u3 kU4 hU4 HU hb3
                go_wp2_with fail
                go_ret
                rw [HFU.out]
                exact ⟨rfl, HF.out⟩
        | true =>
          cases q with
          | false =>
            have b1 : bits .and .i64 wh 1 = 1 := HPQ.out.1
            have b2 : bits .and .i64 wh 2 = 0 := HPQ.out.2.1
            have b3 : bits .and .i64 wh 3 = 1 := HPQ.out.2.2
            clear HPQ
            go_wp2_with fail
            rw [HKK.out.2]
            go_loopw [18] (fun c V => ∃ (i : Nat) (V' : World), V' = V ∧ i ≤ 4 ∧ c = .int .i64 i ∧ Hid (Has V gc (turnB true s k mm i) ∧ Has V gd (turnB false t k mm i) ∧ KeptIn (· < W2.heap.size) W2 V)) (fun c _ => 4 - (intOf c).toNat)
            case atStart => exact ⟨0, _, rfl, by decide, rfl, by first | exact HH0 | (have h := HH0.out; exact Lib.hid ⟨by first | exact h.1 | (rw [turnB, if_pos rfl, turn_zero]; exact h.1), by first | exact h.2.1 | (rw [turnB, if_pos rfl, turn_zero]; exact h.2.1), h.2.2⟩)⟩
            case round =>
              obtain ⟨i, V, rfl, hi, rfl, HV⟩ := hrel
              clear HH0 hconv hconv2
              by_cases hlt : i < 4
              · have i0 : (0 : Int) ≤ (i : Int) := by omega
                have i1 : (i : Int) < 4 := by omega
                have i2 : (k : Int) + (i : Int) < 16 := by omega
                have hki : k + i < s.length := by have := HKK.out.1; have := HLS.out; omega
                obtain ⟨pp, qq, hp, h0, h1⟩ := turn_split s k mm i hki
                have hv : Has V gc (turn s k mm i) := HV.out.1
                rw [h0] at hv
                obtain ⟨hcell, hfz⟩ := hv pp.length s[k + i] (by simp)
                rw [hp] at hcell hfz
                have hset := hv.set (s[k + i] ^^^ UInt8.ofNat (mm / 2 ^ (8 * i)))
                rw [← h1, hp] at hset
                obtain ⟨z, hz⟩ : ∃ z : Nat, s[k + i].toNat = z := ⟨_, rfl⟩
                have hz8 : z < 256 := by rw [← hz]; exact s[k + i].toNat_lt
                rw [UInt8.toNat_xor, hz] at hset
                rw [hz] at hcell
                have hbyte : (UInt8.ofNat (mm / 2 ^ (8 * i))).toNat < 256 := UInt8.toNat_lt _
                have hbx := u8_xor_nat z (UInt8.ofNat (mm / 2 ^ (8 * i))).toNat hz8 hbyte
                have z0 : (0 : Int) ≤ (z : Int) := by omega
                have z1 : (z : Int) ≤ 255 := by omega
                have HS := Lib.hid hset; have HBXX := Lib.hid hbx; have HX8 := Lib.hid hz8
                clear hv h0 h1 hp hset hz hbyte hbx hz8
                go_wp2_with fail
                have hval : bits .xor .u8 (z : Int) ((mm : Int) / 2 ^ (8 * i) % 256) = ((z ^^^ (UInt8.ofNat (mm / 2 ^ (8 * i))).toNat : Nat) : Int) := by
                  have e : (((UInt8.ofNat (mm / 2 ^ (8 * i))).toNat : Nat) : Int) = (mm : Int) / 2 ^ (8 * i) % 256 := by rw [ofNat_byte]; simp
                  rw [← e]
                  exact HBXX.out
                have HVAL := Lib.hid hval
                clear hval
                go_region
                rw [HVAL.out]
                have S5 : Hid (Has (V.setCell ⟨gc, k + i, none⟩ (.int .u8 ((z ^^^ (UInt8.ofNat (mm / 2 ^ (8 * i))).toNat : Nat) : Int))).drew gc (turn s k mm (i + 1)) ∧ Has (V.setCell ⟨gc, k + i, none⟩ (.int .u8 ((z ^^^ (UInt8.ofNat (mm / 2 ^ (8 * i))).toNat : Nat) : Int))).drew gd (turnB false t k mm i) ∧ KeptIn (· < W2.heap.size) W2 (V.setCell ⟨gc, k + i, none⟩ (.int .u8 ((z ^^^ (UInt8.ofNat (mm / 2 ^ (8 * i))).toNat : Nat) : Int))).drew) :=
                  Lib.hid ⟨HS.out, HV.out.2.1.other (fun e => HGG.out.1 e.symm) _, (HV.out.2.2.setCell (p := ⟨gc, k + i, none⟩) HGG.out.2.1 _).drew⟩
                generalize (V.setCell ⟨gc, k + i, none⟩ (.int .u8 ((z ^^^ (UInt8.ofNat (mm / 2 ^ (8 * i))).toNat : Nat) : Int))).drew = V2' at *
                clear HS HVAL HBXX hcell hfz HX8 z0 z1
                go_wp2_with fail
                go_roundw
                case rel => exact ⟨i + 1, _, rfl, by omega, by go_num, S5⟩
                case measure => simp [intOf]; omega
              · obtain rfl : i = 4 := by omega
                have lu : (turnB true s k mm 4).length = 16 := by rw [← HLS.out.1]; first | rfl | exact turn_length s k mm (by have := HKK.out.1; have := HLS.out.1; omega) (by omega)
                have lv : (turnB false t k mm 4).length = 16 := by rw [← HLS.out.2]; first | rfl | exact turn_length t k mm (by have := HKK.out.1; have := HLS.out.2; omega) (by omega)
                obtain ⟨⟨hri, hro⟩, hnn⟩ := HMM.out HM0.out true false
                have hTV := HT2.out.old HV.out.2.2
                have hback1 := conv_back _ gc capc V HV.out.1
                have hback2 := conv_back _ gd capd V HV.out.2.1
                rw [lu] at hback1
                rw [lv] at hback2
                have CN := hdNewest (turnB true s k mm 4) (turnB false t k mm 4) V hTV (by omega) (by omega)
                clear HMM
                generalize turnB true s k mm 4 = u at *
                generalize turnB false t k mm 4 = v at *
                replace hnn : newH u v = (⟨gb, rb, sb, fb, cb⟩, 1, true) := hnn
                rw [hnn] at CN
                have hri2 : isH u = false := hri
                have hro2 : headR u = noH := hro
                simp only [if_true] at CN
                have CR := fun V' (hk : KeptIn (· < V.heap.size) V V') => hdRead u V' (hTV.old hk) (by omega)
                rw [hri2, hro2] at CR
                simp only [ifF] at CR
                have HCN := Lib.hid CN
                have HCR := Lib.hid CR
                have HHV := Lib.hid (And.intro HV.out.1 HV.out.2.2)
                have HLU := Lib.hid lu
                clear CN CR hTV hri hro hri2 hro2 hnn lu lv HV
                go_wp2_with fail
                refine HCN.out.mono ?_
                rintro e U1 hR
                unfold NewH headV at hR
                try unfold noH at hR
                obtain ⟨rfl, u1⟩ := hR
                obtain ⟨y, hy⟩ : ∃ y, U1.heap.size = y := ⟨_, rfl⟩
                have kU2 : KeptIn (· < V.heap.size) V (U1.alloc (.cells #[.int .u64 gb, .int .i64 rb, .int .i64 sb, .int .i64 fb, .int .i64 cb] 25)) := u1.alloc (fun _ h => h) _
                have hb3 := conv_back u gc capc _ (HHV.out.1.keep kU2)
                rw [HLU.out] at hb3
                have by2 : BoxH y ⟨gb, rb, sb, fb, cb⟩ (U1.alloc (.cells #[.int .u64 gb, .int .i64 rb, .int .i64 sb, .int .i64 fb, .int .i64 cb] 25)) := by rw [← hy]; exact BoxH.new U1 ⟨gb, rb, sb, fb, cb⟩
                obtain ⟨U2, hU2⟩ : ∃ U, U1.alloc (.cells #[.int .u64 gb, .int .i64 rb, .int .i64 sb, .int .i64 fb, .int .i64 cb] 25) = U := ⟨_, rfl⟩
                rw [hU2] at by2 kU2
                have HU := Lib.hid (And.intro by2 (And.intro kU2 (And.intro hU2 hy)))
                clear by2 kU2 hU2 hy u1 hback1 hback2
                go_wp2_with fail
                rw [HU.out.2.2.1, HU.out.2.2.2]
                refine (HCR.out U2 HU.out.2.1).mono ?_
                rintro e U3 hR
                unfold ReadH headV at hR
                try unfold noH at hR
                obtain ⟨rfl, u3⟩ := hR
                have u4 : KeptIn (· < U2.heap.size) U2 (U3.alloc (.cells #[.int .u64 0, .int .i64 0, .int .i64 0, .int .i64 0, .int .i64 0] 25)) := u3.alloc (fun _ h => h) _
                have hy4 := HU.out.1.kept u4 HU.out.1.lt
                obtain ⟨U4, hU4⟩ : ∃ U, U3.alloc (.cells #[.int .u64 0, .int .i64 0, .int .i64 0, .int .i64 0, .int .i64 0] 25) = U := ⟨_, rfl⟩
                rw [hU4] at hy4 u4
                have y0 : U4.cell? ⟨y, 0, none⟩ = some (.int .u64 gb) := hy4.c0
                have y1 : U4.cell? ⟨y, 1, none⟩ = some (.int .i64 rb) := hy4.c1
                have y2 : U4.cell? ⟨y, 2, none⟩ = some (.int .i64 sb) := hy4.c2
                have y3 : U4.cell? ⟨y, 3, none⟩ = some (.int .i64 fb) := hy4.c3
                have y4 : U4.cell? ⟨y, 4, none⟩ = some (.int .i64 cb) := hy4.c4
                have kU4 : KeptIn (· < W2.heap.size) W2 U4 := HHV.out.2.step (HU.out.2.1.step u4)
                obtain ⟨c01, c11, c21, c31, c41, d01, d11, d21, d31, d41⟩ := HBX.out U4 kU4
                rw [← hU4] at y0 y1 y2 y3 y4 c01 c11 c21 c31 c41 d01 d11 d21 d31 d41
                have HF := Lib.hid (HK2.out.step kU4)
                have HFU := Lib.hid hU4
                clear hy4 u4 u3 kU4 hU4 HU hb3
                go_wp2_with fail
                go_ret
                rw [HFU.out]
                exact ⟨rfl, HF.out⟩
          | true =>
            have b1 : bits .and .i64 wh 1 = 1 := HPQ.out.1
            have b2 : bits .and .i64 wh 2 = 2 := HPQ.out.2.1
            have b3 : bits .and .i64 wh 3 = 3 := HPQ.out.2.2
            clear HPQ
            go_wp2_with fail
            rw [HKK.out.2]
            go_loopw [18] (fun c V => ∃ (i : Nat) (V' : World), V' = V ∧ i ≤ 4 ∧ c = .int .i64 i ∧ Hid (Has V gc (turnB true s k mm i) ∧ Has V gd (turnB true t k mm i) ∧ KeptIn (· < W2.heap.size) W2 V)) (fun c _ => 4 - (intOf c).toNat)
            case atStart => exact ⟨0, _, rfl, by decide, rfl, by first | exact HH0 | (have h := HH0.out; exact Lib.hid ⟨by first | exact h.1 | (rw [turnB, if_pos rfl, turn_zero]; exact h.1), by first | exact h.2.1 | (rw [turnB, if_pos rfl, turn_zero]; exact h.2.1), h.2.2⟩)⟩
            case round =>
              obtain ⟨i, V, rfl, hi, rfl, HV⟩ := hrel
              clear HH0 hconv hconv2
              by_cases hlt : i < 4
              · have i0 : (0 : Int) ≤ (i : Int) := by omega
                have i1 : (i : Int) < 4 := by omega
                have i2 : (k : Int) + (i : Int) < 16 := by omega
                have hki : k + i < s.length := by have := HKK.out.1; have := HLS.out; omega
                obtain ⟨pp, qq, hp, h0, h1⟩ := turn_split s k mm i hki
                have hv : Has V gc (turn s k mm i) := HV.out.1
                rw [h0] at hv
                obtain ⟨hcell, hfz⟩ := hv pp.length s[k + i] (by simp)
                rw [hp] at hcell hfz
                have hset := hv.set (s[k + i] ^^^ UInt8.ofNat (mm / 2 ^ (8 * i)))
                rw [← h1, hp] at hset
                obtain ⟨z, hz⟩ : ∃ z : Nat, s[k + i].toNat = z := ⟨_, rfl⟩
                have hz8 : z < 256 := by rw [← hz]; exact s[k + i].toNat_lt
                rw [UInt8.toNat_xor, hz] at hset
                rw [hz] at hcell
                have hbyte : (UInt8.ofNat (mm / 2 ^ (8 * i))).toNat < 256 := UInt8.toNat_lt _
                have hbx := u8_xor_nat z (UInt8.ofNat (mm / 2 ^ (8 * i))).toNat hz8 hbyte
                have z0 : (0 : Int) ≤ (z : Int) := by omega
                have z1 : (z : Int) ≤ 255 := by omega
                have HS := Lib.hid hset; have HBXX := Lib.hid hbx; have HX8 := Lib.hid hz8
                clear hv h0 h1 hp hset hz hbyte hbx hz8
                go_wp2_with fail
                have hval : bits .xor .u8 (z : Int) ((mm : Int) / 2 ^ (8 * i) % 256) = ((z ^^^ (UInt8.ofNat (mm / 2 ^ (8 * i))).toNat : Nat) : Int) := by
                  have e : (((UInt8.ofNat (mm / 2 ^ (8 * i))).toNat : Nat) : Int) = (mm : Int) / 2 ^ (8 * i) % 256 := by rw [ofNat_byte]; simp
                  rw [← e]
                  exact HBXX.out
                have HVAL := Lib.hid hval
                clear hval
                go_region
                rw [HVAL.out]
                have S5 : Hid (Has (V.setCell ⟨gc, k + i, none⟩ (.int .u8 ((z ^^^ (UInt8.ofNat (mm / 2 ^ (8 * i))).toNat : Nat) : Int))).drew gc (turn s k mm (i + 1)) ∧ Has (V.setCell ⟨gc, k + i, none⟩ (.int .u8 ((z ^^^ (UInt8.ofNat (mm / 2 ^ (8 * i))).toNat : Nat) : Int))).drew gd (turnB true t k mm i) ∧ KeptIn (· < W2.heap.size) W2 (V.setCell ⟨gc, k + i, none⟩ (.int .u8 ((z ^^^ (UInt8.ofNat (mm / 2 ^ (8 * i))).toNat : Nat) : Int))).drew) :=
                  Lib.hid ⟨HS.out, HV.out.2.1.other (fun e => HGG.out.1 e.symm) _, (HV.out.2.2.setCell (p := ⟨gc, k + i, none⟩) HGG.out.2.1 _).drew⟩
                generalize (V.setCell ⟨gc, k + i, none⟩ (.int .u8 ((z ^^^ (UInt8.ofNat (mm / 2 ^ (8 * i))).toNat : Nat) : Int))).drew = V2' at *
                clear HS HVAL HBXX hcell hfz HX8 z0 z1
                have hki : k + i < t.length := by have := HKK.out.1; have := HLS.out; omega
                obtain ⟨pp, qq, hp, h0, h1⟩ := turn_split t k mm i hki
                have hv : Has V2' gd (turn t k mm i) := S5.out.2.1
                rw [h0] at hv
                obtain ⟨hcell, hfz⟩ := hv pp.length t[k + i] (by simp)
                rw [hp] at hcell hfz
                have hset := hv.set (t[k + i] ^^^ UInt8.ofNat (mm / 2 ^ (8 * i)))
                rw [← h1, hp] at hset
                obtain ⟨z, hz⟩ : ∃ z : Nat, t[k + i].toNat = z := ⟨_, rfl⟩
                have hz8 : z < 256 := by rw [← hz]; exact t[k + i].toNat_lt
                rw [UInt8.toNat_xor, hz] at hset
                rw [hz] at hcell
                have hbyte : (UInt8.ofNat (mm / 2 ^ (8 * i))).toNat < 256 := UInt8.toNat_lt _
                have hbx := u8_xor_nat z (UInt8.ofNat (mm / 2 ^ (8 * i))).toNat hz8 hbyte
                have z0 : (0 : Int) ≤ (z : Int) := by omega
                have z1 : (z : Int) ≤ 255 := by omega
                have HS := Lib.hid hset; have HBXX := Lib.hid hbx; have HX8 := Lib.hid hz8
                clear hv h0 h1 hp hset hz hbyte hbx hz8
                go_wp2_with fail
                have hval : bits .xor .u8 (z : Int) ((mm : Int) / 2 ^ (8 * i) % 256) = ((z ^^^ (UInt8.ofNat (mm / 2 ^ (8 * i))).toNat : Nat) : Int) := by
                  have e : (((UInt8.ofNat (mm / 2 ^ (8 * i))).toNat : Nat) : Int) = (mm : Int) / 2 ^ (8 * i) % 256 := by rw [ofNat_byte]; simp
                  rw [← e]
                  exact HBXX.out
                have HVAL := Lib.hid hval
                clear hval
                go_region
                rw [HVAL.out]
                have S6 : Hid (Has (V2'.setCell ⟨gd, k + i, none⟩ (.int .u8 ((z ^^^ (UInt8.ofNat (mm / 2 ^ (8 * i))).toNat : Nat) : Int))).drew gc (turnB true s k mm (i + 1)) ∧ Has (V2'.setCell ⟨gd, k + i, none⟩ (.int .u8 ((z ^^^ (UInt8.ofNat (mm / 2 ^ (8 * i))).toNat : Nat) : Int))).drew gd (turn t k mm (i + 1)) ∧ KeptIn (· < W2.heap.size) W2 (V2'.setCell ⟨gd, k + i, none⟩ (.int .u8 ((z ^^^ (UInt8.ofNat (mm / 2 ^ (8 * i))).toNat : Nat) : Int))).drew) :=
                  Lib.hid ⟨S5.out.1.other HGG.out.1 _, HS.out, (S5.out.2.2.setCell (p := ⟨gd, k + i, none⟩) HGG.out.2.2 _).drew⟩
                generalize (V2'.setCell ⟨gd, k + i, none⟩ (.int .u8 ((z ^^^ (UInt8.ofNat (mm / 2 ^ (8 * i))).toNat : Nat) : Int))).drew = V3' at *
                clear HS HVAL HBXX hcell hfz HX8 z0 z1
                go_wp2_with fail
                go_roundw
                case rel => exact ⟨i + 1, _, rfl, by omega, by go_num, S6⟩
                case measure => simp [intOf]; omega
              · obtain rfl : i = 4 := by omega
                have lu : (turnB true s k mm 4).length = 16 := by rw [← HLS.out.1]; first | rfl | exact turn_length s k mm (by have := HKK.out.1; have := HLS.out.1; omega) (by omega)
                have lv : (turnB true t k mm 4).length = 16 := by rw [← HLS.out.2]; first | rfl | exact turn_length t k mm (by have := HKK.out.1; have := HLS.out.2; omega) (by omega)
                obtain ⟨⟨hri, hro⟩, hnn⟩ := HMM.out HM0.out true true
                have hTV := HT2.out.old HV.out.2.2
                have hback1 := conv_back _ gc capc V HV.out.1
                have hback2 := conv_back _ gd capd V HV.out.2.1
                rw [lu] at hback1
                rw [lv] at hback2
                have CN := hdNewest (turnB true s k mm 4) (turnB true t k mm 4) V hTV (by omega) (by omega)
                clear HMM
                generalize turnB true s k mm 4 = u at *
                generalize turnB true t k mm 4 = v at *
                replace hnn : newH u v = (noH, 0, false) := hnn
                rw [hnn] at CN
                have hri2 : isH u = false := hri
                have hro2 : headR u = noH := hro
                simp only [ifF] at CN
                have CR := fun V' (hk : KeptIn (· < V.heap.size) V V') => hdRead u V' (hTV.old hk) (by omega)
                rw [hri2, hro2] at CR
                simp only [ifF] at CR
                have HCN := Lib.hid CN
                have HCR := Lib.hid CR
                have HHV := Lib.hid (And.intro HV.out.1 HV.out.2.2)
                have HLU := Lib.hid lu
                clear CN CR hTV hri hro hri2 hro2 hnn lu lv HV
                go_wp2_with fail
                refine HCN.out.mono ?_
                rintro e U1 hR
                unfold NewH headV at hR
                try unfold noH at hR
                obtain ⟨rfl, u1⟩ := hR
                obtain ⟨y, hy⟩ : ∃ y, U1.heap.size = y := ⟨_, rfl⟩
                have kU2 : KeptIn (· < V.heap.size) V (U1.alloc (.cells #[.int .u64 0, .int .i64 0, .int .i64 0, .int .i64 0, .int .i64 0] 25)) := u1.alloc (fun _ h => h) _
                have hb3 := conv_back u gc capc _ (HHV.out.1.keep kU2)
                rw [HLU.out] at hb3
                have by2 : BoxH y ⟨0, 0, 0, 0, 0⟩ (U1.alloc (.cells #[.int .u64 0, .int .i64 0, .int .i64 0, .int .i64 0, .int .i64 0] 25)) := by rw [← hy]; exact BoxH.new U1 ⟨0, 0, 0, 0, 0⟩
                obtain ⟨U2, hU2⟩ : ∃ U, U1.alloc (.cells #[.int .u64 0, .int .i64 0, .int .i64 0, .int .i64 0, .int .i64 0] 25) = U := ⟨_, rfl⟩
                rw [hU2] at by2 kU2
                have HU := Lib.hid (And.intro by2 (And.intro kU2 (And.intro hU2 hy)))
                clear by2 kU2 hU2 hy u1 hback1 hback2
                go_wp2_with fail
                rw [HU.out.2.2.1, HU.out.2.2.2]
                refine (HCR.out U2 HU.out.2.1).mono ?_
                rintro e U3 hR
                unfold ReadH headV at hR
                try unfold noH at hR
                obtain ⟨rfl, u3⟩ := hR
                have u4 : KeptIn (· < U2.heap.size) U2 (U3.alloc (.cells #[.int .u64 0, .int .i64 0, .int .i64 0, .int .i64 0, .int .i64 0] 25)) := u3.alloc (fun _ h => h) _
                have hy4 := HU.out.1.kept u4 HU.out.1.lt
                obtain ⟨U4, hU4⟩ : ∃ U, U3.alloc (.cells #[.int .u64 0, .int .i64 0, .int .i64 0, .int .i64 0, .int .i64 0] 25) = U := ⟨_, rfl⟩
                rw [hU4] at hy4 u4
                have y0 : U4.cell? ⟨y, 0, none⟩ = some (.int .u64 0) := hy4.c0
                have y1 : U4.cell? ⟨y, 1, none⟩ = some (.int .i64 0) := hy4.c1
                have y2 : U4.cell? ⟨y, 2, none⟩ = some (.int .i64 0) := hy4.c2
                have y3 : U4.cell? ⟨y, 3, none⟩ = some (.int .i64 0) := hy4.c3
                have y4 : U4.cell? ⟨y, 4, none⟩ = some (.int .i64 0) := hy4.c4
                have kU4 : KeptIn (· < W2.heap.size) W2 U4 := HHV.out.2.step (HU.out.2.1.step u4)
                obtain ⟨c01, c11, c21, c31, c41, d01, d11, d21, d31, d41⟩ := HBX.out U4 kU4
                rw [← hU4] at y0 y1 y2 y3 y4 c01 c11 c21 c31 c41 d01 d11 d21 d31 d41
                have HF := Lib.hid (HK2.out.step kU4)
                have HFU := Lib.hid hU4
                clear hy4 u4 u3 kU4 hU4 HU hb3
                go_wp2_with fail
                go_ret
                rw [HFU.out]
                exact ⟨rfl, HF.out⟩

theorem headTellsR (ga : Nat) (ra sa fa ca : Int) (gb : Nat) (rb sb fb cb : Int) (at_ mk wh : Int) (w : World) (_ _ : True) (wa : (Lit.int .i64 at_).wf = true) (wm : (Lit.int .u32 mk).wf = true) (ww : (Lit.int .i64 wh).wf = true) (hT : Tab w) :
    Calls Tryd.prog 4 #[headV ⟨ga, ra, sa, fa, ca⟩, headV ⟨gb, rb, sb, fb, cb⟩, .int .i64 at_, .int .u32 mk, .int .i64 wh] w fun e w' => e = .returned (.bool true) ∧ KeptIn (· < w.heap.size) w w' := headTellsW ga ra sa fa ca gb rb sb fb cb at_ mk wh w wa wm ww hT

end Go.Proofs.YtdogchpeimgkjaaDoor
