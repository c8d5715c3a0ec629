/- CastleTells of layer 2: the walk: it returns true for every input and writes nothing that was there. -/
import Derived.Test.YtklgadhdcnmgpaaDoorTold
import Derived.OpenShut
import Derived.BigRegion
set_option linter.unusedVariables false
namespace Go.Proofs.YtklgadhdcnmgpaaDoor
open Go.RowKit

/-- The bytes u stand from block g's first cell on, and may be written. -/
def Has (W : World) (g : Nat) (u : List UInt8) : Prop := ∀ j b, u[j]? = some b → W.cell? ⟨g, j, none⟩ = some (.int .u8 b.toNat) ∧ W.frozen? ⟨g, j, none⟩ = false

theorem Has.set {W : World} {g : Nat} {p d : List UInt8} {x : UInt8} (h : Has W g (p ++ x :: d)) (v : UInt8) : Has (W.setCell ⟨g, p.length, none⟩ (.int .u8 v.toNat)) g (p ++ v :: d) := by
  intro j b hj
  by_cases e : j = p.length
  · subst e
    obtain ⟨h1, h2⟩ := h p.length x (by simp)
    obtain rfl : v = b := by simpa using hj
    exact ⟨World.cell?_setCell_same _ _ _ h1, by rw [World.frozen?_setCell]; exact h2⟩
  · obtain ⟨h1, h2⟩ := h j b (by
      rw [← hj]
      rcases Nat.lt_or_ge j p.length with hl | hl
      · rw [List.getElem?_append_left hl, List.getElem?_append_left hl]
      · rw [List.getElem?_append_right hl, List.getElem?_append_right hl]
        obtain ⟨i, hi⟩ : ∃ i, j - p.length = i + 1 := ⟨j - p.length - 1, by omega⟩
        rw [hi, List.getElem?_cons_succ, List.getElem?_cons_succ])
    exact ⟨by rw [World.cell?_setCell_other _ _ _ _ (by intro h; cases h; exact e rfl)]; exact h1, by rw [World.frozen?_setCell]; exact h2⟩

theorem conv_has (t : List UInt8) (w : World) : ∃ cap W, (convert 9 29 (.string ⟨t.toArray⟩)).run Tryd.prog w = .ok (.slice (some ⟨w.heap.size, 0, none⟩) t.length cap) W ∧
    Has W w.heap.size t ∧ KeptIn (· < w.heap.size) w W := by
  refine ⟨_, _, run_bytes_of_string w 9 29 5 ⟨t.toArray⟩ (by kernel_rfl) (by kernel_rfl) (by kernel_rfl), ?_, (KeptIn.refl _ _).drew.alloc (fun _ h => h) _⟩
  intro i b hb
  obtain ⟨hi, rfl⟩ := List.getElem?_eq_some_iff.1 hb
  have hr := bytesRow_at ⟨t.toArray⟩ (grownCap w (⟨t.toArray⟩ : ByteArray).size 0 5) i (by simpa using hi)
  constructor
  · show World.cell? _ ⟨w.drew.heap.size, i, none⟩ = _
    rw [Lib.cell_of_heap (heap_alloc_new w.drew _)]
    simpa using hr
  · have hsz : i < (bytesRow ⟨t.toArray⟩ (grownCap w (⟨t.toArray⟩ : ByteArray).size 0 5)).size := (Array.getElem?_eq_some_iff.1 hr).1
    show World.frozen? _ ⟨w.drew.heap.size, i, none⟩ = _
    unfold World.frozen?
    rw [heap_alloc_new w.drew _]
    simp only [Bool.and_eq_false_iff, decide_eq_false_iff_not]
    left
    omega

/-- 'string(b)' of bytes that stand in a row. -/
theorem conv_back (u : List UInt8) (g cap : Nat) (W : World) (h : Has W g u) : (convert 29 9 (.slice (some ⟨g, 0, none⟩) u.length cap)).run Tryd.prog W = .ok (.string ⟨u.toArray⟩) W := by
  refine run_convert_bytes_back (P := Tryd.prog) W 29 9 5 ⟨g, 0, none⟩ cap u (by kernel_rfl) (by kernel_rfl) (by kernel_rfl) ?_
  intro j hj
  have hadd : (⟨g, 0, none⟩ : Addr).add j = ⟨g, j, none⟩ := by unfold Addr.add; split <;> simp_all
  rw [hadd]
  exact (h j _ (List.getElem?_eq_getElem hj)).1

set_option maxHeartbeats 1000000 in
set_option maxRecDepth 100000 in
theorem tellsL (l : List UInt8) (at_ : Int) (m : Nat) (w : World) (hT : Tab w) (ha : (l.length : Int) ≤ 9223372036854775807) (hat0 : -9223372036854775808 ≤ at_) (hat1 : at_ ≤ 9223372036854775807) (hm : m < 4294967296) :
    Calls Tryd.prog 4 #[.string ⟨l.toArray⟩, .int .i64 at_, .int .u32 m] w fun e w' => e = .returned (.bool true) ∧ KeptIn (· < w.heap.size) w w' := by
  have HT := Lib.hid hT
  have HM := Lib.hid hm
  have m0 : (0 : Int) ≤ (m : Int) := by omega
  have m1 : (m : Int) ≤ 4294967295 := by omega
  clear hT hm
  go_enter Tryd.func4, Tryd.ntmps4
  go_wp2_with fail
  refine (awake2 w HT.out).mono ?_
  rintro e w1 ⟨rfl, k1⟩
  have T1 := Lib.hid (HT.out.kept k1 HT.out.lt)
  have K1 := Lib.hid k1
  clear k1
  by_cases h1 : 512 < (l.length : Int)
  · go_wp2
    go_ret
    exact ⟨rfl, K1.out⟩
  have h1' : (l.length : Int) ≤ 512 := by omega
  have HL := Lib.hid h1'
  go_wp2_with fail
  refine (castleSeal l w1 T1.out (by have := HL.out; omega)).mono ?_
  rintro e w2 ⟨rfl, k2⟩
  replace k2 := K1.out.trans (k2.mono fun k h => Nat.lt_of_lt_of_le h K1.out.size)
  have T2 := Lib.hid (HT.out.kept k2 HT.out.lt)
  have K2 := Lib.hid k2
  clear k2
  have hlen : (sealOf l).length = l.length + 4 := sealOf_length l
  have HTL := Lib.hid (show sealOf l = sealOf l from rfl)
  obtain ⟨t, ht⟩ : ∃ t, sealOf l = t := ⟨_, rfl⟩
  rw [ht] at hlen ⊢
  have HTT := Lib.hid ht
  clear ht HTL
  have hlen' : (t.length : Int) = (l.length : Int) + 4 := by omega
  clear hlen
  obtain ⟨cap, W, hconv, hhas, hk⟩ := conv_has t w2
  have K3 : Hid (KeptIn (· < w.heap.size) w W) := Lib.hid (K2.out.trans (hk.mono fun k h => Nat.lt_of_lt_of_le h K2.out.size))
  have hg : ¬ w2.heap.size < w.heap.size := by have := K2.out.size; omega
  have HG := Lib.hid hg
  obtain ⟨k, hkk, hkl⟩ : ∃ k : Nat, wrap64 ((IntKind.u64.wrap at_).tmod ((l.length : Int) + 1)) = (k : Int) ∧ k ≤ l.length := by
    have hn : 0 ≤ IntKind.u64.wrap at_ := by rw [IntKind.wrap_u64]; omega
    have he : (IntKind.u64.wrap at_).tmod ((l.length : Int) + 1) = (IntKind.u64.wrap at_) % ((l.length : Int) + 1) := Int.tmod_eq_emod_of_nonneg hn
    have h0 := Int.emod_nonneg (IntKind.u64.wrap at_) (show ((l.length : Int) + 1) ≠ 0 by omega)
    have h1 := Int.emod_lt_of_pos (IntKind.u64.wrap at_) (show 0 < ((l.length : Int) + 1) by omega)
    rw [he]
    generalize (IntKind.u64.wrap at_) % ((l.length : Int) + 1) = x at *
    refine ⟨x.toNat, ?_, by omega⟩
    rw [show wrap64 x = x from by unfold wrap64; omega]
    omega
  have HH0 : Hid (Has W w2.heap.size (turn t k m 0)) := Lib.hid (by rw [turn_zero]; exact hhas)
  clear hhas hk hg T1 K1 T2 K2
  go_wp2_with fail
  generalize w2.heap.size = g at *
  rw [hkk]
  have HKL := Lib.hid hkl
  clear hkk hconv hat0 hat1
  have k0 : (0 : Int) ≤ (k : Int) := by omega
  have k1 : (k : Int) ≤ (l.length : Int) := by omega
  clear hkl
  go_loopw [10] (fun c V => ∃ (i : Nat) (V' : World), V' = V ∧ i ≤ 4 ∧ c = .int .i64 i ∧ Hid (Has V g (turn t k m i)) ∧ Hid (KeptIn (· < w.heap.size) w V)) (fun c _ => 4 - (intOf c).toNat)
  case atStart => exact ⟨0, _, rfl, by decide, rfl, HH0, K3⟩
  case round =>
    obtain ⟨i, V, rfl, hi, rfl, HV, KV⟩ := hrel
    clear HH0 K3
    by_cases hlt : i < 4
    · have hki : k + i < t.length := by have := HKL.out; omega
      obtain ⟨p, d, hp, h0, h1⟩ := turn_split t k m i hki
      have hv := HV.out
      rw [h0] at hv
      obtain ⟨hcell, hfz⟩ := hv p.length t[k + i] (by simp)
      rw [hp] at hcell hfz
      have hset := hv.set (t[k + i] ^^^ UInt8.ofNat (m / 2 ^ (8 * i)))
      rw [← h1, hp] at hset
      obtain ⟨x, hx⟩ : ∃ x : Nat, t[k + i].toNat = x := ⟨_, rfl⟩
      have hx8 : x < 256 := by rw [← hx]; exact t[k + i].toNat_lt
      rw [UInt8.toNat_xor, hx] at hset
      rw [hx] at hcell
      have hbyte : (UInt8.ofNat (m / 2 ^ (8 * i))).toNat < 256 := UInt8.toNat_lt _
      have hbx := u8_xor_nat x (UInt8.ofNat (m / 2 ^ (8 * i))).toNat hx8 hbyte
      have i0 : (0 : Int) ≤ (i : Int) := by omega
      have i1 : (i : Int) < 4 := by omega
      have i2 : (k : Int) + (i : Int) < (t.length : Int) := by omega
      have x0 : (0 : Int) ≤ (x : Int) := by omega
      have x1 : (x : Int) ≤ 255 := by omega
      have HS := Lib.hid hset; have HBX := Lib.hid hbx; have HX8 := Lib.hid hx8
      clear hv h0 h1 hp hset hx hbyte hbx hx8
      go_wp2_with fail
      have hval : bits .xor .u8 (x : Int) ((m : Int) / 2 ^ (8 * i) % 256) = ((x ^^^ (UInt8.ofNat (m / 2 ^ (8 * i))).toNat : Nat) : Int) := by
        have e : (((UInt8.ofNat (m / 2 ^ (8 * i))).toNat : Nat) : Int) = (m : Int) / 2 ^ (8 * i) % 256 := by rw [ofNat_byte]; simp
        rw [← e]
        exact HBX.out
      have HVAL := Lib.hid hval
      clear hval
      go_region
      rw [HVAL.out]
      have K5 : Hid (KeptIn (· < w.heap.size) w (V.setCell ⟨g, k + i, none⟩ (.int .u8 ((x ^^^ (UInt8.ofNat (m / 2 ^ (8 * i))).toNat : Nat) : Int))).drew) := Lib.hid ((KV.out.setCell (p := ⟨g, k + i, none⟩) HG.out _).drew)
      have S5 : Hid (Has (V.setCell ⟨g, k + i, none⟩ (.int .u8 ((x ^^^ (UInt8.ofNat (m / 2 ^ (8 * i))).toNat : Nat) : Int))).drew g (turn t k m (i + 1))) := HS
      generalize (V.setCell ⟨g, k + i, none⟩ (.int .u8 ((x ^^^ (UInt8.ofNat (m / 2 ^ (8 * i))).toNat : Nat) : Int))).drew = V2 at *
      clear HS HVAL HBX hcell hfz
      go_wp2
      go_roundw
      case rel => exact ⟨i + 1, _, rfl, by omega, by go_num, S5, K5⟩
      case measure => simp [intOf]; omega
    · obtain rfl : i = 4 := by omega
      have hul : (turn t k m 4).length = t.length := by
        obtain ⟨p, q, q', r, e1, e2, e3, e4, _⟩ := turn_four t k m (by have := HKL.out; omega) HM.out
        rw [e2]
        conv => rhs; rw [e1]
        simp [e3, e4]
      have hback := conv_back (turn t k m 4) g cap V HV.out
      rw [hul] at hback
      obtain ⟨htold, hback2⟩ := told l k m HKL.out HM.out
      rw [HTT.out] at htold hback2
      have hu5 : (turn t k m 4).length ≤ 65536 := by rw [hul]; omega
      generalize turn t k m 4 = u at *
      have HU := Lib.hid hu5; have HTO := Lib.hid htold; have HB2 := Lib.hid hback2
      have TV := Lib.hid (HT.out.kept KV.out HT.out.lt)
      clear hul hu5 htold hback2
      go_wp2_with fail
      refine (castleOpen u V TV.out HU.out).mono ?_
      rintro e W6 ⟨rfl, k6⟩
      have K6 := Lib.hid (KV.out.trans (k6.mono fun k h => Nat.lt_of_lt_of_le h KV.out.size))
      clear k6 hback
      rw [HTO.out]
      by_cases hm0 : m = 0
      · rw [HB2.out hm0, decide_eq_true hm0]
        subst hm0
        have ell : (l == l) = true := beq_self_eq_true l
        go_wp2
        go_ret
        exact ⟨rfl, K6.out⟩
      · rw [decide_eq_false hm0]
        have hm1 : ((m : Int) == 0) = false := by rw [beq_eq_false_iff_ne]; omega
        clear hm0
        generalize openOf u = o at *
        go_wp2
        go_ret
        exact ⟨rfl, K6.out⟩

theorem tellsW (s : ByteArray) (at_ m : Int) (w : World) (ws : s.size ≤ maxLen) (wa : (Lit.int .i64 at_).wf = true) (wm : (Lit.int .u32 m).wf = true) (hT : Tab w) :
    Calls Tryd.prog 4 #[.string s, .int .i64 at_, .int .u32 m] w fun e w' => e = .returned (.bool true) ∧ KeptIn (· < w.heap.size) w w' := by
  have ba := bounds_i64 wa
  have bm := bounds_u32 wm
  obtain ⟨n, rfl⟩ := Int.eq_ofNat_of_zero_le bm.1
  have := tellsL s.data.toList at_ n w hT (by rw [Array.length_toList]; have : s.data.size ≤ maxLen := ws; unfold maxLen at this; omega) (by omega) (by omega) (by omega)
  rwa [Lib.mk_data] at this

end Go.Proofs.YtklgadhdcnmgpaaDoor
