/- tiercelaw05.LeafBack: it answers true whatever the input; what was there stands. -/
import Derived.Test.YtaahgdmlacpjbaaDoorAw5
import Derived.Test.YtaahgdmlacpjbaaDoorNums
set_option linter.unusedVariables false
namespace Go.Proofs.YtaahgdmlacpjbaaDoor
open Go.RowKit

/-- A page that was turned within four bytes is none, unless it was turned by nothing. -/
theorem isN_turn {lv : Int} {ps : Pairs} (hg : goodN lv ps = true) (hf : Fits ps) (k m : Nat) (hk : k ≤ 252) (hm : m < 4294967296) : isN (turn (bytesN lv ps) k m 4) = decide (m = 0) := by
  have h15 := (good_parts hg).2.2
  obtain ⟨h1, h2⟩ := told (textN lv ps) k m (by rw [textN_length _ _ h15]; exact hk) hm
  change openIs (turn (bytesN lv ps) k m 4) = _ at h1
  change m = 0 → openOf (turn (bytesN lv ps) k m 4) = _ at h2
  have hul : (turn (bytesN lv ps) k m 4).length = 256 := by
    obtain ⟨p, q, q', r, e1, e2, e3, e4, _⟩ := turn_four (bytesN lv ps) k m (by rw [bytesN_length _ _ h15]; omega) hm
    rw [e2]
    have := bytesN_length lv ps h15
    rw [e1] at this
    simp only [List.length_append] at this ⊢
    omega
  by_cases h0 : m = 0
  · rw [decide_eq_true h0] at h1 ⊢
    have e := (openIs_sealed _ (by omega)).1 h1
    have e2 := h2 h0
    rw [openOf, h1, if_pos rfl] at e2
    rw [e2] at e
    rw [← e]
    exact (read_bytes hg hf).1
  · rw [decide_eq_false h0] at h1 ⊢
    rw [Bool.eq_false_iff]
    intro hi
    simp only [isN, Bool.and_eq_true, decide_eq_true_eq] at hi
    have h3 := seal_opens (textN (lvIn (turn (bytesN lv ps) k m 4)) (psIn (turn (bytesN lv ps) k m 4)))
    change openIs (bytesN _ _) = true at h3
    rw [hi.2, h1] at h3
    cases h3

set_option maxHeartbeats 4000000 in
set_option maxRecDepth 100000 in
theorem leafBackW (la : Int) (a : Option Addr) (ca : Nat) (pa : Pairs) (lb : Int) (b : Option Addr) (cb : Nat) (pb : Pairs) (at_ mk : Int) (w : World) (w0 : IsPs w a pa) (w1 : IsPs w b pb) (wa : (Lit.int .i64 at_).wf = true) (wm : (Lit.int .u32 mk).wf = true) (hT : Tab w) :
    Calls Tryd.prog 5 #[leafV la a pa.length ca, leafV lb b pb.length cb, .int .i64 at_, .int .u32 mk] w fun e w' => e = .returned (.bool true) ∧ KeptIn (· < w.heap.size) w w' := by
  have ba := bounds_i64 wa
  have bm := bounds_u32 wm
  obtain ⟨mm, rfl⟩ := Int.eq_ofNat_of_zero_le bm.1
  have m0 : (0 : Int) ≤ (mm : Int) := by omega
  have m1 : (mm : Int) ≤ 4294967295 := by omega
  obtain ⟨k, hk253, hkk⟩ := modWalk at_ 253 (by decide) (by decide)
  have hkk' : wrap64 ((IntKind.u64.wrap at_).tmod 253) = (k : Int) := hkk
  clear wa wm ba bm hkk
  obtain ⟨n, hn⟩ : ∃ n, pa.length = n := ⟨_, rfl⟩
  obtain ⟨m, hm⟩ : ∃ n, pb.length = n := ⟨_, rfl⟩
  have hm1 : (n : Int) ≤ 9223372036854775807 := by have := w0.len; unfold maxLen at this; omega
  have hm2 : (m : Int) ≤ 9223372036854775807 := by have := w1.len; unfold maxLen at this; omega
  obtain ⟨W1, hW1⟩ : ∃ W1, w.alloc (.cells #[.int .i64 la, .slice a n ca] 24) = W1 := ⟨_, rfl⟩
  obtain ⟨W2, hW2⟩ : ∃ W2, W1.alloc (.cells #[.int .i64 lb, .slice b m cb] 24) = W2 := ⟨_, rfl⟩
  have hk1 : KeptIn (· < w.heap.size) w W1 := by rw [← hW1]; exact (KeptIn.refl _ w).alloc (fun _ h => h) _
  have hk12 : KeptIn (· < W1.heap.size) W1 W2 := by rw [← hW2]; exact (KeptIn.refl _ W1).alloc (fun _ h => h) _
  have hk2 := hk1.step hk12
  have hba0 := BoxL.new w la a n ca
  have hbb := BoxL.new W1 lb b m cb
  rw [hW1] at hba0
  rw [hW2] at hbb
  have hba := hba0.kept hk12 hba0.lt
  have hpa := w0.old hk2
  have hpb := w1.old hk2
  have HT0 := Lib.hid hT
  have HT2 := Lib.hid (hT.old hk2)
  have CA := Lib.hid (awake5 W2 HT2.out)
  have HBX := Lib.hid fun V (k : KeptIn (· < W2.heap.size) W2 V) => And.intro (hba.kept k hba.lt).c0 (And.intro (hba.kept k hba.lt).c1 (And.intro (hbb.kept k hbb.lt).c0 (hbb.kept k hbb.lt).c1))
  have HA0 := Lib.hid fun hg V (k : KeptIn (· < W2.heap.size) W2 V) => lfBytesBad la a ca pa V (hpa.old k) hg
  have HA1 := Lib.hid fun hg V (k : KeptIn (· < W2.heap.size) W2 V) => lfBytesOk la a ca pa V (HT2.out.old k) (hpa.old k) hg
  have HB0 := Lib.hid fun hg V (k : KeptIn (· < W2.heap.size) W2 V) => lfBytesBad lb b cb pb V (hpb.old k) hg
  have HB1 := Lib.hid fun hg V (k : KeptIn (· < W2.heap.size) W2 V) => lfBytesOk lb b cb pb V (HT2.out.old k) (hpb.old k) hg
  have HS1 := Lib.hid fun V x cx (k : KeptIn (· < W2.heap.size) W2 V) (hx : IsPs V x pa) => r5Same la la a x ca cx pa pa V (hpa.old k) hx
  have HS2 := Lib.hid fun V (k : KeptIn (· < W2.heap.size) W2 V) => r5Same la lb a b ca cb pa pb V (hpa.old k) (hpb.old k)
  have HFT := Lib.hid (And.intro hpa.fits hpb.fits)
  unfold leafV at *
  rw [hn] at HA0 HA1 HS1 HS2 ⊢
  rw [hm] at HB0 HB1 HS2 ⊢
  have HK2 := Lib.hid hk2
  have HNM := Lib.hid (And.intro hn hm)
  have HKK := Lib.hid (And.intro hk253 hkk')
  clear hT hk1 hk12 hk2 w0 w1 hn hm hba0 hba hbb hpa hpb hk253 hkk'
  by_cases h40 : (40 : Int) < (n : Int)
  · go_enter Tryd.func5, Tryd.ntmps5
    go_wp2_with (go_at_call 6; refine CA.out.mono ?_; rintro e V1 ⟨rfl, kv⟩; obtain ⟨c01, c11, c21, c31⟩ := HBX.out V1 kv)
    go_ret
    exact ⟨rfl, HK2.out.step kv⟩
  have h40' : (n : Int) ≤ 40 := by omega
  by_cases h300 : (40 : Int) < (m : Int)
  · go_enter Tryd.func5, Tryd.ntmps5
    go_wp2_with (go_at_call 6; refine CA.out.mono ?_; rintro e V1 ⟨rfl, kv⟩; obtain ⟨c01, c11, c21, c31⟩ := HBX.out V1 kv)
    go_ret
    exact ⟨rfl, HK2.out.step kv⟩
  have h300' : (m : Int) ≤ 40 := by omega
  clear h40 h300
  cases hga : goodN la pa with
  | false =>
    have HBA := Lib.hid fun V k => HA0.out hga V k
    cases hgb : goodN lb pb with
    | false =>
      have HBB := Lib.hid fun V k => HB0.out hgb V k
      clear HA0 HA1 HB0 HB1 hga hgb
      go_enter Tryd.func5, Tryd.ntmps5
      go_wp2_with (first
        | (go_at_call 6; refine CA.out.mono ?_; clear CA; rintro e V1 ⟨rfl, kv⟩; obtain ⟨c01, c11, c21, c31⟩ := HBX.out V1 kv)
        | (go_at_call 7; refine (HBA.out V1 kv).mono ?_; clear HBA; rintro e V2 ⟨rfl, k2⟩; obtain ⟨c02, c12, c22, c32⟩ := HBX.out V2 (kv.step k2))
        | (go_at_call 7; refine (HBB.out V2 (kv.step k2)).mono ?_; clear HBB; rintro e V3 ⟨rfl, k3⟩; obtain ⟨c03, c13, c23, c33⟩ := HBX.out V3 ((kv.step k2).step k3)))
      go_ret
      exact ⟨rfl, HK2.out.step ((kv.step k2).step k3)⟩
    | true =>
      have HBB := Lib.hid fun V k => HB1.out hgb V k
      clear HA0 HA1 HB0 HB1 hga hgb
      go_enter Tryd.func5, Tryd.ntmps5
      go_wp2_with (first
        | (go_at_call 6; refine CA.out.mono ?_; clear CA; rintro e V1 ⟨rfl, kv⟩; obtain ⟨c01, c11, c21, c31⟩ := HBX.out V1 kv)
        | (go_at_call 7; refine (HBA.out V1 kv).mono ?_; clear HBA; rintro e V2 ⟨rfl, k2⟩; obtain ⟨c02, c12, c22, c32⟩ := HBX.out V2 (kv.step k2))
        | (go_at_call 7; refine (HBB.out V2 (kv.step k2)).mono ?_; clear HBB; rintro e V3 ⟨rfl, k3⟩; obtain ⟨c03, c13, c23, c33⟩ := HBX.out V3 ((kv.step k2).step k3)))
      go_ret
      exact ⟨rfl, HK2.out.step ((kv.step k2).step k3)⟩
  | true =>
    have HBA := Lib.hid fun V k => HA1.out hga V k
    cases hgb : goodN lb pb with
    | false =>
      have HBB := Lib.hid fun V k => HB0.out hgb V k
      clear HA0 HA1 HB0 HB1 hga hgb
      go_enter Tryd.func5, Tryd.ntmps5
      go_wp2_with (first
        | (go_at_call 6; refine CA.out.mono ?_; clear CA; rintro e V1 ⟨rfl, kv⟩; obtain ⟨c01, c11, c21, c31⟩ := HBX.out V1 kv)
        | (go_at_call 7; refine (HBA.out V1 kv).mono ?_; clear HBA; rintro e V2 ⟨rfl, k2⟩; obtain ⟨c02, c12, c22, c32⟩ := HBX.out V2 (kv.step k2))
        | (go_at_call 7; refine (HBB.out V2 (kv.step k2)).mono ?_; clear HBB; rintro e V3 ⟨rfl, k3⟩; obtain ⟨c03, c13, c23, c33⟩ := HBX.out V3 ((kv.step k2).step k3)))
      go_ret
      exact ⟨rfl, HK2.out.step ((kv.step k2).step k3)⟩
    | true =>
      have HBB := Lib.hid fun V k => HB1.out hgb V k
      obtain ⟨s, hs⟩ : ∃ s, bytesN la pa = s := ⟨_, rfl⟩
      obtain ⟨t, ht⟩ : ∃ t, bytesN lb pb = t := ⟨_, rfl⟩
      have hr := read_bytes hga HFT.out.1
      have hlen := bytesN_length la pa (good_parts hga).2.2
      have hinj := bytesN_inj hga hgb HFT.out.1 HFT.out.2
      have htn := fun (j : Nat) (h : j ≤ 252) (h2 : mm < 4294967296) => isN_turn hga HFT.out.1 j mm h h2
      simp only [hs, ht] at HBA HBB hr hlen hinj htn
      have hrR : lvR s = la ∧ psR s = pa := ⟨by rw [(is_isN hr.1).1]; exact hr.2.1, by rw [(is_isN hr.1).2]; exact hr.2.2⟩
      have HRD := Lib.hid fun V (k : KeptIn (· < W2.heap.size) W2 V) => lfRead s V (HT2.out.old k) (by omega)
      unfold ReadL leafV at HRD
      simp only [hr.1, hrR.1, hrR.2, if_true] at HRD
      rw [HNM.out.1] at HRD
      have hl : (s.length : Int) = 256 := by omega
      obtain ⟨d, hd⟩ : ∃ d, decide (la = lb ∧ pa = pb) = d := ⟨_, rfl⟩
      rw [hd] at HS2
      have hst : (s == t) = d := by
        rw [← hd, Bool.eq_iff_iff, beq_iff_eq, decide_eq_true_iff]
        exact hinj
      have HTN := Lib.hid htn
      have HL := Lib.hid hlen
      have HSA := Lib.hid fun (V : World) x cx (k : KeptIn (· < W2.heap.size) W2 V) (hx : IsPs V x pa) => (HS1.out (V.alloc (.cells #[.int .i64 la, .slice x n cx] 24)) x cx (k.alloc (fun _ h => h) _) (hx.old ((KeptIn.refl _ V).alloc (fun _ h => h) _))).mono (R' := fun e w' => e = .returned (.bool true) ∧ KeptIn (· < W2.heap.size) W2 w') fun e w' ⟨he, h⟩ => ⟨by rw [he]; simp, (k.alloc (fun _ h => h) _).trans (h.mono fun q hq => Nat.lt_of_lt_of_le hq (k.alloc (fun _ h => h) _).size)⟩
      have HXA := Lib.hid fun (V : World) x cx (k : KeptIn (· < W2.heap.size) W2 V) => HBX.out (V.alloc (.cells #[.int .i64 la, .slice x n cx] 24)) (k.alloc (fun _ h => h) _)
      clear HA0 HA1 HB0 HB1 hga hgb hs ht hr hlen hinj htn hrR hd HS1
      go_enter Tryd.func5, Tryd.ntmps5
      go_wp2_with (first
        | (go_at_call 6; refine CA.out.mono ?_; clear CA; rintro e V1 ⟨rfl, kv⟩; obtain ⟨c01, c11, c21, c31⟩ := HBX.out V1 kv)
        | (go_at_call 7; refine (HBA.out V1 kv).mono ?_; clear HBA; rintro e V2 ⟨rfl, k2⟩; obtain ⟨c02, c12, c22, c32⟩ := HBX.out V2 (kv.step k2))
        | (go_at_call 7; refine (HBB.out V2 (kv.step k2)).mono ?_; clear HBB; rintro e V3 ⟨rfl, k3⟩; obtain ⟨c03, c13, c23, c33⟩ := HBX.out V3 ((kv.step k2).step k3)))
      have kv3 := (kv.step k2).step k3
      refine (HRD.out V3 kv3).mono ?_
      rintro e V4 ⟨x, cx, rfl, px, k4⟩
      have kv4 := kv3.step k4
      have C5 := HSA.out V4 x cx kv4 px
      obtain ⟨e0, e1, e2, e3⟩ := HXA.out V4 x cx kv4
      have HC5 := Lib.hid C5
      clear C5 px HSA HXA HRD
      have HKK2 := HKK.out.2
      cases d with
      | false =>
        go_wp2_with (go_at_call 13; refine HC5.out.mono ?_; clear HC5; rintro e V5 ⟨rfl, k5⟩; obtain ⟨f0, f1, f2, f3⟩ := HBX.out V5 k5)
        clear e0 e1 e2 e3
        go_wp2_with (go_at_call 13; refine (HS2.out V5 k5).mono ?_; clear HS2; rintro e V6 ⟨rfl, k6⟩; obtain ⟨capc, W8, hconv, hhas, hkc⟩ := conv_has s V6)
        have k56 := k5.step k6
        obtain ⟨g, hg⟩ : ∃ g, V6.heap.size = g := ⟨_, rfl⟩
        have hgw : ¬ g < w.heap.size := by have := HK2.out.size; have := k56.size; omega
        have hkw8 := HK2.out.step (k56.step hkc)
        rw [hg] at hhas ⊢
        rw [HKK.out.2]
        have HG := Lib.hid hgw
        have HH0 : Hid (Has W8 g (turn s k mm 0)) := Lib.hid (by rw [turn_zero]; exact hhas)
        have K8 : Hid (KeptIn (· < w.heap.size) w W8) := Lib.hid hkw8
        have HKL := Lib.hid HKK.out.1
        have kk0 : (0 : Int) ≤ (k : Int) := by omega
        have kk1 : (k : Int) ≤ 252 := by have := HKL.out; omega
        clear hconv hhas hkc hg hgw hkw8 f0 f1 f2 f3 HBX k56 HKK2 kv k2 k3 k4 k5 k6 kv3 kv4 HFT
        go_loopw [17] (fun c V => ∃ (i : Nat) (V' : World), V' = V ∧ i ≤ 4 ∧ c = .int .i64 i ∧ Hid (Has V g (turn s k mm i)) ∧ Hid (KeptIn (· < w.heap.size) w V)) (fun c _ => 4 - (intOf c).toNat)
        case atStart => exact ⟨0, _, rfl, by decide, rfl, HH0, K8⟩
        case round =>
          obtain ⟨i, V, rfl, hi, rfl, HV, KV⟩ := hrel
          clear HH0 K8
          by_cases hlt : i < 4
          · have hki : k + i < s.length := by have := HKL.out; have := HL.out; omega
            obtain ⟨p, q, hp, h0, h1⟩ := turn_split s k mm i hki
            have hv := HV.out
            rw [h0] at hv
            obtain ⟨hcell, hfz⟩ := hv p.length s[k + i] (by simp)
            rw [hp] at hcell hfz
            have hset := hv.set (s[k + i] ^^^ UInt8.ofNat (mm / 2 ^ (8 * i)))
            rw [← h1, hp] at hset
            obtain ⟨z, hz⟩ : ∃ z : Nat, s[k + i].toNat = z := ⟨_, rfl⟩
            have hz8 : z < 256 := by rw [← hz]; exact s[k + i].toNat_lt
            rw [UInt8.toNat_xor, hz] at hset
            rw [hz] at hcell
            have hbyte : (UInt8.ofNat (mm / 2 ^ (8 * i))).toNat < 256 := UInt8.toNat_lt _
            have hbx := u8_xor_nat z (UInt8.ofNat (mm / 2 ^ (8 * i))).toNat hz8 hbyte
            have i0 : (0 : Int) ≤ (i : Int) := by omega
            have i1 : (i : Int) < 4 := by omega
            have i2 : (k : Int) + (i : Int) < (s.length : Int) := by omega
            have i3 : (k : Int) + (i : Int) < 256 := by omega
            have z0 : (0 : Int) ≤ (z : Int) := by omega
            have z1 : (z : Int) ≤ 255 := by omega
            have HS := Lib.hid hset; have HBXX := Lib.hid hbx; have HX8 := Lib.hid hz8
            clear hv h0 h1 hp hset hz hbyte hbx hz8
            go_wp2_with fail
            have hval : bits .xor .u8 (z : Int) ((mm : Int) / 2 ^ (8 * i) % 256) = ((z ^^^ (UInt8.ofNat (mm / 2 ^ (8 * i))).toNat : Nat) : Int) := by
              have e : (((UInt8.ofNat (mm / 2 ^ (8 * i))).toNat : Nat) : Int) = (mm : Int) / 2 ^ (8 * i) % 256 := by rw [ofNat_byte]; simp
              rw [← e]
              exact HBXX.out
            have HVAL := Lib.hid hval
            clear hval
            go_region
            rw [HVAL.out]
            have K5 : Hid (KeptIn (· < w.heap.size) w (V.setCell ⟨g, k + i, none⟩ (.int .u8 ((z ^^^ (UInt8.ofNat (mm / 2 ^ (8 * i))).toNat : Nat) : Int))).drew) := Lib.hid ((KV.out.setCell (p := ⟨g, k + i, none⟩) HG.out _).drew)
            have S5 : Hid (Has (V.setCell ⟨g, k + i, none⟩ (.int .u8 ((z ^^^ (UInt8.ofNat (mm / 2 ^ (8 * i))).toNat : Nat) : Int))).drew g (turn s k mm (i + 1))) := HS
            generalize (V.setCell ⟨g, k + i, none⟩ (.int .u8 ((z ^^^ (UInt8.ofNat (mm / 2 ^ (8 * i))).toNat : Nat) : Int))).drew = V2 at *
            clear HS HVAL HBXX hcell hfz
            go_wp2
            go_roundw
            case rel => exact ⟨i + 1, _, rfl, by omega, by go_num, S5, K5⟩
            case measure => simp [intOf]; omega
          · obtain rfl : i = 4 := by omega
            have hN := HTN.out k (by have := HKL.out; omega) (by omega)
            have hul : (turn s k mm 4).length = s.length := by
              obtain ⟨p, q, q', r, e1, e2, e3, e4, _⟩ := turn_four s k mm (by have := HKL.out; have := HL.out; omega) (by omega)
              rw [e2]
              conv => rhs; rw [e1]
              simp [e3, e4]
            have hback := conv_back (turn s k mm 4) g capc V HV.out
            rw [hul] at hback
            have hu5 : (turn s k mm 4).length ≤ 65536 := by rw [hul]; have := HL.out; omega
            generalize turn s k mm 4 = u at *
            have TV := HT0.out.old KV.out
            have CU := lfRead u V TV hu5
            unfold ReadL leafV at CU
            rw [hN] at CU
            clear hul hu5 TV hN
            generalize lvR u = lu at *
            generalize (psR u).length = nu at *
            by_cases hm0 : mm = 0
            · simp only [decide_eq_true hm0, if_true] at CU
              have HCU := Lib.hid CU
              clear CU
              subst hm0
              go_wp2_with (go_at_call 11; refine HCU.out.mono ?_; rintro e V9 ⟨ay, cy, rfl, _, k9⟩)
              go_ret
              exact ⟨rfl, (KV.out.step k9).alloc (fun _ h => h) _⟩
            · simp only [decide_eq_false hm0, Bool.false_eq_true, if_false] at CU
              have HCU := Lib.hid CU
              have mz : ((mm : Int) == 0) = false := by rw [beq_eq_false_iff_ne]; omega
              have mz2 : (mm == 0) = false := by rw [beq_eq_false_iff_ne]; omega
              clear CU hm0
              go_wp2_with (go_at_call 11; refine HCU.out.mono ?_; rintro e V9 ⟨ay, cy, rfl, _, k9⟩)
              go_ret
              exact ⟨rfl, (KV.out.step k9).alloc (fun _ h => h) _⟩
      | true =>
        go_wp2_with (go_at_call 13; refine HC5.out.mono ?_; clear HC5; rintro e V5 ⟨rfl, k5⟩; obtain ⟨f0, f1, f2, f3⟩ := HBX.out V5 k5)
        clear e0 e1 e2 e3
        go_wp2_with (go_at_call 13; refine (HS2.out V5 k5).mono ?_; clear HS2; rintro e V6 ⟨rfl, k6⟩; obtain ⟨capc, W8, hconv, hhas, hkc⟩ := conv_has s V6)
        have k56 := k5.step k6
        obtain ⟨g, hg⟩ : ∃ g, V6.heap.size = g := ⟨_, rfl⟩
        have hgw : ¬ g < w.heap.size := by have := HK2.out.size; have := k56.size; omega
        have hkw8 := HK2.out.step (k56.step hkc)
        rw [hg] at hhas ⊢
        rw [HKK.out.2]
        have HG := Lib.hid hgw
        have HH0 : Hid (Has W8 g (turn s k mm 0)) := Lib.hid (by rw [turn_zero]; exact hhas)
        have K8 : Hid (KeptIn (· < w.heap.size) w W8) := Lib.hid hkw8
        have HKL := Lib.hid HKK.out.1
        have kk0 : (0 : Int) ≤ (k : Int) := by omega
        have kk1 : (k : Int) ≤ 252 := by have := HKL.out; omega
        clear hconv hhas hkc hg hgw hkw8 f0 f1 f2 f3 HBX k56 HKK2 kv k2 k3 k4 k5 k6 kv3 kv4 HFT
        go_loopw [17] (fun c V => ∃ (i : Nat) (V' : World), V' = V ∧ i ≤ 4 ∧ c = .int .i64 i ∧ Hid (Has V g (turn s k mm i)) ∧ Hid (KeptIn (· < w.heap.size) w V)) (fun c _ => 4 - (intOf c).toNat)
        case atStart => exact ⟨0, _, rfl, by decide, rfl, HH0, K8⟩
        case round =>
          obtain ⟨i, V, rfl, hi, rfl, HV, KV⟩ := hrel
          clear HH0 K8
          by_cases hlt : i < 4
          · have hki : k + i < s.length := by have := HKL.out; have := HL.out; omega
            obtain ⟨p, q, hp, h0, h1⟩ := turn_split s k mm i hki
            have hv := HV.out
            rw [h0] at hv
            obtain ⟨hcell, hfz⟩ := hv p.length s[k + i] (by simp)
            rw [hp] at hcell hfz
            have hset := hv.set (s[k + i] ^^^ UInt8.ofNat (mm / 2 ^ (8 * i)))
            rw [← h1, hp] at hset
            obtain ⟨z, hz⟩ : ∃ z : Nat, s[k + i].toNat = z := ⟨_, rfl⟩
            have hz8 : z < 256 := by rw [← hz]; exact s[k + i].toNat_lt
            rw [UInt8.toNat_xor, hz] at hset
            rw [hz] at hcell
            have hbyte : (UInt8.ofNat (mm / 2 ^ (8 * i))).toNat < 256 := UInt8.toNat_lt _
            have hbx := u8_xor_nat z (UInt8.ofNat (mm / 2 ^ (8 * i))).toNat hz8 hbyte
            have i0 : (0 : Int) ≤ (i : Int) := by omega
            have i1 : (i : Int) < 4 := by omega
            have i2 : (k : Int) + (i : Int) < (s.length : Int) := by omega
            have i3 : (k : Int) + (i : Int) < 256 := by omega
            have z0 : (0 : Int) ≤ (z : Int) := by omega
            have z1 : (z : Int) ≤ 255 := by omega
            have HS := Lib.hid hset; have HBXX := Lib.hid hbx; have HX8 := Lib.hid hz8
            clear hv h0 h1 hp hset hz hbyte hbx hz8
            go_wp2_with fail
            have hval : bits .xor .u8 (z : Int) ((mm : Int) / 2 ^ (8 * i) % 256) = ((z ^^^ (UInt8.ofNat (mm / 2 ^ (8 * i))).toNat : Nat) : Int) := by
              have e : (((UInt8.ofNat (mm / 2 ^ (8 * i))).toNat : Nat) : Int) = (mm : Int) / 2 ^ (8 * i) % 256 := by rw [ofNat_byte]; simp
              rw [← e]
              exact HBXX.out
            have HVAL := Lib.hid hval
            clear hval
            go_region
            rw [HVAL.out]
            have K5 : Hid (KeptIn (· < w.heap.size) w (V.setCell ⟨g, k + i, none⟩ (.int .u8 ((z ^^^ (UInt8.ofNat (mm / 2 ^ (8 * i))).toNat : Nat) : Int))).drew) := Lib.hid ((KV.out.setCell (p := ⟨g, k + i, none⟩) HG.out _).drew)
            have S5 : Hid (Has (V.setCell ⟨g, k + i, none⟩ (.int .u8 ((z ^^^ (UInt8.ofNat (mm / 2 ^ (8 * i))).toNat : Nat) : Int))).drew g (turn s k mm (i + 1))) := HS
            generalize (V.setCell ⟨g, k + i, none⟩ (.int .u8 ((z ^^^ (UInt8.ofNat (mm / 2 ^ (8 * i))).toNat : Nat) : Int))).drew = V2 at *
            clear HS HVAL HBXX hcell hfz
            go_wp2
            go_roundw
            case rel => exact ⟨i + 1, _, rfl, by omega, by go_num, S5, K5⟩
            case measure => simp [intOf]; omega
          · obtain rfl : i = 4 := by omega
            have hN := HTN.out k (by have := HKL.out; omega) (by omega)
            have hul : (turn s k mm 4).length = s.length := by
              obtain ⟨p, q, q', r, e1, e2, e3, e4, _⟩ := turn_four s k mm (by have := HKL.out; have := HL.out; omega) (by omega)
              rw [e2]
              conv => rhs; rw [e1]
              simp [e3, e4]
            have hback := conv_back (turn s k mm 4) g capc V HV.out
            rw [hul] at hback
            have hu5 : (turn s k mm 4).length ≤ 65536 := by rw [hul]; have := HL.out; omega
            generalize turn s k mm 4 = u at *
            have TV := HT0.out.old KV.out
            have CU := lfRead u V TV hu5
            unfold ReadL leafV at CU
            rw [hN] at CU
            clear hul hu5 TV hN
            generalize lvR u = lu at *
            generalize (psR u).length = nu at *
            by_cases hm0 : mm = 0
            · simp only [decide_eq_true hm0, if_true] at CU
              have HCU := Lib.hid CU
              clear CU
              subst hm0
              go_wp2_with (go_at_call 11; refine HCU.out.mono ?_; rintro e V9 ⟨ay, cy, rfl, _, k9⟩)
              go_ret
              exact ⟨rfl, (KV.out.step k9).alloc (fun _ h => h) _⟩
            · simp only [decide_eq_false hm0, Bool.false_eq_true, if_false] at CU
              have HCU := Lib.hid CU
              have mz : ((mm : Int) == 0) = false := by rw [beq_eq_false_iff_ne]; omega
              have mz2 : (mm == 0) = false := by rw [beq_eq_false_iff_ne]; omega
              clear CU hm0
              go_wp2_with (go_at_call 11; refine HCU.out.mono ?_; rintro e V9 ⟨ay, cy, rfl, _, k9⟩)
              go_ret
              exact ⟨rfl, (KV.out.step k9).alloc (fun _ h => h) _⟩

end Go.Proofs.YtaahgdmlacpjbaaDoor
