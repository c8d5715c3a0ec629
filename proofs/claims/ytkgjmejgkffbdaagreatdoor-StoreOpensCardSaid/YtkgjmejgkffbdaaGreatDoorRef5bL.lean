import Derived.Test.YtkgjmejgkffbdaaGreatDoorRef5L
import Derived.Test.YtkgjmejgkffbdaaGreatDoorM9
import Derived.Test.YtkgjmejgkffbdaaGreatDoorConvL
/- The reference of layer 5 (tierceref05): Bytes. -/
set_option linter.unusedVariables false
namespace Go.Proofs.YtkgjmejgkffbdaaGreatDoor
open Go.RowKit

/-- Four bytes in a row of their own. -/
theorem has4 (w : World) (p q r s : UInt8) : Has (w.alloc (.cells #[.int .u8 p.toNat, .int .u8 q.toNat, .int .u8 r.toNat, .int .u8 s.toNat] 5)) w.heap.size [p, q, r, s] := by
  intro j b hj
  have hb := heap_alloc_new w (.cells #[.int .u8 p.toNat, .int .u8 q.toNat, .int .u8 r.toNat, .int .u8 s.toNat] 5)
  refine ⟨?_, frozen_of_row _ _ _ _ _ hb⟩
  rw [cell_of_row _ _ j _ _ _ hb]
  match j, hj with
  | 0, hj => simp at hj; subst hj; rfl
  | 1, hj => simp at hj; subst hj; rfl
  | 2, hj => simp at hj; subst hj; rfl
  | 3, hj => simp at hj; subst hj; rfl

/-- A string's length. -/
def strLen : Value → Nat
  | .string s => s.size
  | _ => 0

set_option maxHeartbeats 1000000 in
set_option maxRecDepth 100000 in
theorem r5Bytes (lv : Int) (a : Option Addr) (cap : Nat) (ps : Pairs) (w : World) (h : IsPs w a ps) (hg : goodN lv ps = true) :
    Calls Tryz.prog 57 #[leafV lv a ps.length cap] w fun e w' => e = .returned (.string ⟨(bytesN lv ps).toArray⟩) ∧ KeptIn (· < w.heap.size) w w' := by
  obtain ⟨h0, h7, h15⟩ := good_parts hg
  obtain ⟨m, rfl⟩ := Int.eq_ofNat_of_zero_le h0
  obtain ⟨n, hn⟩ : ∃ n, ps.length = n := ⟨_, rfl⟩
  have m0 : (0 : Int) ≤ (m : Int) := h0
  have m1 : (m : Int) ≤ 7 := h7
  have n1 : (n : Int) ≤ 15 := by omega
  have HM := Lib.hid (show m ≤ 7 ∧ n ≤ 15 by omega)
  obtain ⟨out, hout⟩ : ∃ out, bytesN (m : Int) ps = out := ⟨_, rfl⟩
  rw [hout]
  unfold leafV at *
  rw [hn]
  have H := Lib.hid h; have HN := Lib.hid hn; have HO := Lib.hid hout
  have em : ((UInt8.ofNat m).toNat : Int) = (m : Int) := by have := u8_small m (by omega); omega
  have en : ((UInt8.ofNat n).toNat : Int) = (n : Int) := by have := u8_small n (by omega); omega
  have hhas := has4 (w.alloc (.cells #[.int .i64 m, .slice a n cap] 47)) 76 (UInt8.ofNat m) (UInt8.ofNat n) 0
  rw [em, en, World.size_alloc] at hhas
  replace hhas : Has ((w.alloc (.cells #[.int .i64 m, .slice a n cap] 47)).alloc (.cells #[.int .u8 76, .int .u8 m, .int .u8 n, .int .u8 0] 5)) (w.heap.size + 1) [76, UInt8.ofNat m, UInt8.ofNat n, 0] := hhas
  have hconv := conv_back [76, UInt8.ofNat m, UInt8.ofNat n, 0] (w.heap.size + 1) 4 _ hhas
  have HJ0 : Hid (KeptIn (· < w.heap.size) w ((w.alloc (.cells #[.int .i64 m, .slice a n cap] 47)).alloc (.cells #[.int .u8 76, .int .u8 m, .int .u8 n, .int .u8 0] 5)) ∧ BoxL w.heap.size m a n cap ((w.alloc (.cells #[.int .i64 m, .slice a n cap] 47)).alloc (.cells #[.int .u8 76, .int .u8 m, .int .u8 n, .int .u8 0] 5))) := Lib.hid
    ⟨((KeptIn.refl _ w).alloc (fun _ h => h) _).alloc (fun _ h => h) _, (BoxL.new w m a n cap).kept ((KeptIn.refl (· < (w.alloc (.cells #[.int .i64 m, .slice a n cap] 47)).heap.size) _).alloc (fun _ h => h) _) (by simp)⟩
  clear h hn hg h15 h0 h7 hout em en hhas
  simp only [List.length_cons, List.length_nil, Nat.reduceAdd] at hconv
  go_enter Tryz.func57, Tryz.ntmps57
  go_wp2_with fail
  go_loopw [3, 4] (fun s c wr => ∃ (j : Nat) (W : World), W = wr ∧ j ≤ n ∧ c = .int .i64 j ∧ s = .string ⟨(headB m n ++ pairsB (ps.take j)).toArray⟩ ∧ Hid (KeptIn (· < w.heap.size) w W ∧ BoxL w.heap.size m a n cap W)) (fun _ c _ => n - (RowKit.intOf c).toNat)
  case atStart => exact ⟨0, _, rfl, Nat.zero_le _, rfl, rfl, HJ0⟩
  case round =>
    obtain ⟨j, W, rfl, hj, rfl, rfl, HJ⟩ := hrel
    clear HJ0 hconv
    have c1 := HJ.out.2.c1
    by_cases hlt : j < n
    · have d0 : (0 : Int) ≤ (j : Int) := by omega
      have d1 : (j : Int) < (n : Int) := by omega
      have hjl : j < ps.length := by rw [HN.out]; exact hlt
      obtain ⟨b, off, rfl, hb, hc⟩ := (H.out.old HJ.out.1).cells (by omega)
      obtain ⟨e1, e2⟩ := hc j hjl
      obtain ⟨f1, f2⟩ := H.out.fits.at hjl
      have hst := pairsB_take ps j hjl
      obtain ⟨kx, hkx⟩ : ∃ kx, keyAt ps j = kx := ⟨_, rfl⟩
      obtain ⟨vx, hvx⟩ : ∃ vx, valAt ps j = vx := ⟨_, rfl⟩
      rw [hkx] at e1 f1 hst
      rw [hvx] at e2 f2 hst
      have CB := fun V v (hv : v < 18446744073709551616) (hk : KeptIn (· < W.heap.size) W V) => (rbytes v 8 V hv).mono (R' := fun e w' => e = .returned (.string ⟨(bytesLE v 8).toArray⟩) ∧ KeptIn (· < W.heap.size) W w') fun e w' ⟨he, h⟩ => ⟨he, hk.trans (h.mono fun k h => Nat.lt_of_lt_of_le h hk.size)⟩
      have l2 := bytesLE_length kx 8
      have l3 := bytesLE_length vx 8
      have l1 : (headB m n ++ pairsB (ps.take j)).length ≤ 300 := by
        rw [List.length_append, pairsB_length, List.length_take]
        show 4 + _ ≤ _
        have := HM.out
        omega
      obtain ⟨t, ht⟩ : ∃ t, headB m n ++ pairsB (ps.take j) = t := ⟨_, rfl⟩
      rw [ht] at l1 ⊢
      have HST : Hid ((⟨t.toArray⟩ : ByteArray) ++ ⟨(bytesLE kx 8).toArray⟩ ++ ⟨(bytesLE vx 8).toArray⟩ = ⟨(headB m n ++ pairsB (ps.take (j + 1))).toArray⟩) := Lib.hid (by rw [joinB, joinB, hst, ← ht]; simp)
      have HCB := Lib.hid CB
      have hx := HJ.out.2.lt
      have g1 : ¬ 9223372036854775807 < t.length + 8 := by omega
      have g2 : ¬ 9223372036854775807 < t.length + 8 + 8 := by omega
      have g3 : ¬ 9223372036854775807 < t.length + 16 := by omega
      have g4 : decide (9223372036854775807 < t.length + 8) = false := decide_eq_false g1
      have g5 : decide (9223372036854775807 < t.length + 8 + 8) = false := decide_eq_false g2
      have g6 : decide (9223372036854775807 < t.length + 16) = false := decide_eq_false g3
      clear hc hst hkx hvx hjl ht CB
      go_wp2_with fail
      go_region_held3 (fun w' => w'.cell? ⟨w.heap.size, 1, none⟩ = some (.slice (some ⟨b, off, none⟩) n cap) ∧ w'.cell? ⟨b, off + j * 2, none⟩ = some (.int .u64 kx) ∧ w'.cell? ⟨b, off + j * 2 + 1, none⟩ = some (.int .u64 vx))
        (first
          | exact ⟨c1, e1, e2⟩
          | exact ⟨(World.cell?_of_block (a := ⟨w.heap.size, 1, none⟩) (hk.block _ hx)).trans c1, (World.cell?_of_block (a := ⟨b, off + j * 2, none⟩) (hk.block b hb)).trans e1, (World.cell?_of_block (a := ⟨b, off + j * 2 + 1, none⟩) (hk.block b hb)).trans e2⟩)
        (first
          | (go_at_call 61; refine (HCB.out _ _ (by assumption) hk).mono ?_; rintro e w' ⟨rfl, hk⟩)
          | (go_at_call 61; refine (HCB.out _ _ (by assumption) ((KeptIn.refl _ _).drew)).mono ?_; rintro e w' ⟨rfl, hk⟩))
      rw [HST.out]
      have HJ2 : Hid (KeptIn (· < w.heap.size) w w' ∧ BoxL w.heap.size m (some ⟨b, off, none⟩) n cap w') := Lib.hid ⟨HJ.out.1.trans (hk.mono fun k h => Nat.lt_of_lt_of_le h HJ.out.1.size), HJ.out.2.kept hk hx⟩
      clear hk HJ c1 e1 e2 hb hx f1 f2 l1 l2 l3 g1 g2 g3 g4 g5 g6 HCB
      go_wp2_with fail
      go_roundw
      case rel => exact ⟨j + 1, _, rfl, by omega, by go_num, rfl, HJ2⟩
      case measure => simp [RowKit.intOf]; omega
    · obtain rfl : j = n := by omega
      have d1 : (j : Int) ≤ (j : Int) := by omega
      have htx : ∀ z, headB m j ++ pairsB (ps.take j) ++ List.replicate z 0 = headB m j ++ pairsB ps ++ List.replicate z 0 := fun z => by rw [List.take_of_length_le (by rw [HN.out]; exact Nat.le_refl _)]
      have hT0 : (headB m j ++ pairsB (ps.take j)).length = 4 + 16 * j := by
        rw [List.length_append, pairsB_length, List.length_take, HN.out, Nat.min_self]
        rfl
      obtain ⟨T, hT⟩ : ∃ T, headB m j ++ pairsB (ps.take j) = T := ⟨_, rfl⟩
      rw [hT] at hT0 htx ⊢
      have HT := Lib.hid (And.intro hT0 htx)
      have e0 : T = T ++ List.replicate 0 0 := by simp
      rw [e0]
      have HK := Lib.hid HJ.out.1
      clear hT hT0 htx e0 HJ
      go_wp2_with fail
      go_loopw [3] (fun s wr => ∃ (z : Nat) (V : World), V = wr ∧ W = V ∧ T.length + z ≤ 252 ∧ s = .string ⟨(T ++ List.replicate z 0).toArray⟩) (fun s _ => 252 - strLen s)
      case atStart => exact ⟨0, _, rfl, rfl, by have := HT.out.1; have := HM.out; omega, rfl⟩
      case round =>
        obtain ⟨z, V, rfl, rfl, hz, rfl⟩ := hrel
        have hsz : ∀ z, (⟨(T ++ List.replicate z (0 : UInt8)).toArray⟩ : ByteArray).size = T.length + z := fun z => by
          show (T ++ List.replicate z (0 : UInt8)).toArray.size = _
          simp
        have HSZ := Lib.hid hsz
        have hstep : (⟨(T ++ List.replicate z (0 : UInt8)).toArray⟩ : ByteArray) ++ ⟨#[0]⟩ = ⟨(T ++ List.replicate (z + 1) 0).toArray⟩ := by
          rw [show (⟨#[0]⟩ : ByteArray) = ⟨([0] : List UInt8).toArray⟩ from rfl, joinB, List.replicate_succ']
          simp
        obtain ⟨l, hl⟩ : ∃ l, T ++ List.replicate z (0 : UInt8) = l := ⟨_, rfl⟩
        have hll : l.length = T.length + z := by rw [← hl]; simp
        rw [hl] at hstep ⊢
        have HL := Lib.hid hl
        have HST := Lib.hid hstep
        clear hsz hl hstep
        by_cases hlt : T.length + z < 252
        · have i1 : (l.length : Int) < 252 := by omega
          have g1 : ¬ 9223372036854775807 < l.length + 1 := by omega
          clear hz
          go_wp2_with fail
          rw [HST.out]
          go_roundw
          case rel => exact ⟨z + 1, _, rfl, rfl, by omega, rfl⟩
          case measure =>
            have h1 := HSZ.out (z + 1)
            have h2 := HSZ.out z
            rw [HL.out] at h2
            simp [strLen] at h1 h2 ⊢
            omega
        · have i1 : (252 : Int) ≤ (l.length : Int) := by omega
          have hb : sealOf l = out := by
            rw [← HO.out, bytesN, ← HL.out, HT.out.2, textN, HN.out]
            congr 4
            have := HT.out.1
            omega
          have hl2 : l.length ≤ 65536 := by omega
          have HLL := Lib.hid hl2
          have HBB := Lib.hid hb
          clear hz hll hb hl2
          go_wp2_with fail
          refine (refSeal l W HLL.out).mono ?_
          rintro e W2 ⟨rfl, k2⟩
          have HK2 : Hid (KeptIn (· < w.heap.size) w W2) := Lib.hid (HK.out.trans (k2.mono fun k h => Nat.lt_of_lt_of_le h HK.out.size))
          clear k2
          rw [HBB.out]
          go_wp2
          go_ret
          exact ⟨rfl, HK2.out⟩

end Go.Proofs.YtkgjmejgkffbdaaGreatDoor
