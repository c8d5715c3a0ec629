/- OctetWrites of layer 1: the walk: it returns true for every input and writes nothing that was there. -/
import Derived.Test.YtifealfkcfcbeaaDoorAw1
import Derived.Test.YtifealfkcfcbeaaDoorRef1
set_option linter.unusedVariables false
namespace Go.Proofs.YtifealfkcfcbeaaDoor
open Go.RowKit

theorem append_bytes (l m : List UInt8) : (⟨l.toArray⟩ : ByteArray) ++ ⟨m.toArray⟩ = ⟨(l ++ m).toArray⟩ := by
  apply ByteArray.ext
  simp

def strLen : Value → Nat
  | .string s => s.size
  | _ => 0

/-- What a slice of deeds that came in is: each element's four cells. -/
def IsActs (w : World) (a : Option Addr) (len : Nat) : Prop :=
  len = 0 ∨ ∃ b off, a = some ⟨b, off, none⟩ ∧ b < w.heap.size ∧ len ≤ maxLen ∧ ∀ i, i < len → ∃ (k : Int) (n : Nat) (sz : Int) (s : ByteArray),
    (Lit.int .i64 k).wf = true ∧ n < 18446744073709551616 ∧ (Lit.int .i64 sz).wf = true ∧ s.size ≤ maxLen ∧
    w.cell? ⟨b, off + i * 4, none⟩ = some (.int .i64 k) ∧ w.cell? ⟨b, off + i * 4 + 1, none⟩ = some (.int .u64 n) ∧
    w.cell? ⟨b, off + i * 4 + 2, none⟩ = some (.int .i64 sz) ∧ w.cell? ⟨b, off + i * 4 + 3, none⟩ = some (.string s)

theorem IsActs.len_le {w : World} {a : Option Addr} {len : Nat} (h : IsActs w a len) : len ≤ maxLen := by
  rcases h with rfl | ⟨b, off, _, _, h, _⟩
  · exact Nat.zero_le _
  · exact h

set_option maxHeartbeats 1000000 in
set_option maxRecDepth 100000 in
theorem writesW (a0 : Option Addr) (len0 cap0 : Nat) (w : World) (w0 : IsActs w a0 len0) :
    Calls Tryd.prog 3 #[.slice a0 len0 cap0] w fun e w' => e = .returned (.bool true) ∧ KeptIn (· < w.heap.size) w w' := by
  have l0 := w0.len_le
  unfold maxLen at l0
  have b0 : (len0 : Int) ≤ 9223372036854775807 := by omega
  have W0 := Lib.hid w0
  clear w0 l0
  go_enter Tryd.func3, Tryd.ntmps3
  go_wp2_with fail
  refine (awake1 w).mono ?_
  rintro e w3 ⟨rfl, k3⟩
  go_wp2_with fail
  have hX3 : ∀ k, k < w.heap.size → k < w3.heap.size := fun k h => Nat.lt_of_lt_of_le h k3.size
  have h0 : Holds (· < w.heap.size) w3.heap.size [] (w3.alloc (.cells #[.pointer none, .int .i64 0, .int .i64 0] 27)) := Holds.fresh _ w3 hX3
  have k4 : KeptIn (· < w.heap.size) w (w3.alloc (.cells #[.pointer none, .int .i64 0, .int .i64 0] 27)) := k3.alloc (fun _ h => h) _
  have H0 := Lib.hid (And.intro h0 k4)
  clear h0 k4 hX3 k3
  generalize w3.alloc (.cells #[.pointer none, .int .i64 0, .int .i64 0] 27) = w4 at *
  generalize w3.heap.size = a at *
  go_loopw [4, 5] (fun v c W => ∃ (j : Nat) (W' : World) (t : List UInt8), W' = W ∧ j ≤ len0 ∧ j ≤ 60 ∧ c = .int .i64 j ∧ v = .string ⟨t.toArray⟩ ∧ Hid (t.length ≤ 4096 + 100 * j ∧ Holds (· < w.heap.size) a t W ∧ KeptIn (· < w.heap.size) w W)) (fun _ c _ => 60 - (intOf c).toNat)
  case atStart => exact ⟨0, _, [], rfl, Nat.zero_le _, Nat.zero_le _, rfl, rfl, Lib.hid ⟨Nat.zero_le _, H0.out⟩⟩
  case round =>
    obtain ⟨j, W, t, rfl, hj, hj6, rfl, rfl, HJ⟩ := hrel
    clear H0
    by_cases hlt : j < len0
    · have d1 : (j : Int) < (len0 : Int) := by omega
      by_cases hlt6 : j < 60
      · have d2 : (j : Int) < 60 := by omega
        obtain ⟨b, off, rfl, hb, _, hel⟩ : ∃ b off, a0 = some ⟨b, off, none⟩ ∧ b < w.heap.size ∧ len0 ≤ maxLen ∧ _ := W0.out.resolve_left (by omega)
        obtain ⟨kd, n, sz, s, wk, hn, wsz, hs, e0, e1, e2, e3⟩ := hel j hlt
        have g0 := (World.cell?_of_block (HJ.out.2.2.block b hb)).trans e0
        have g1 := (World.cell?_of_block (HJ.out.2.2.block b hb)).trans e1
        have g2 := (World.cell?_of_block (HJ.out.2.2.block b hb)).trans e2
        have g3 := (World.cell?_of_block (HJ.out.2.2.block b hb)).trans e3
        have d0 : (0 : Int) ≤ (j : Int) := by omega
        have bk := bounds_i64 wk
        have bsz := bounds_i64 wsz
        unfold maxLen at hs
        have bs : (s.size : Int) ≤ 9223372036854775807 := by omega
        clear e0 e1 e2 e3 hel wk wsz
        obtain ⟨hlen, hH, hK⟩ := HJ.out
        have hA5 : (W.alloc (.cells #[.int .i64 kd, .int .u64 n, .int .i64 sz, .string s] 30)).heap[W.heap.size]? = some (.cells #[.int .i64 kd, .int .u64 n, .int .i64 sz, .string s] 30 (0, 0)) := heap_alloc_new W _
        have hk5 := (KeptIn.refl (· < W.heap.size) W).alloc (fun _ h => h) (.cells #[.int .i64 kd, .int .u64 n, .int .i64 sz, .string s] 30)
        have hH5 := (hH.beyond W.heap.size (Nat.le_refl _)).old hk5
        have hX5 : ∀ k, also (· < w.heap.size) W.heap.size k → k < (W.alloc (.cells #[.int .i64 kd, .int .u64 n, .int .i64 sz, .string s] 30)).heap.size := also_lt (fun k h => Nat.lt_of_lt_of_le (hK.lt (fun _ h => h) k h) hk5.size) (Array.getElem?_eq_some_iff.1 hA5).1
        have H5 := Lib.hid (And.intro hH5 (And.intro hX5 (hK.trans (hk5.mono (hK.lt (fun _ h => h))))))
        have HA5 := Lib.hid hA5
        have HL := Lib.hid hlen
        clear hlen hH hK hA5 hk5 hH5 hX5 HJ
        go_wp2_with fail
        all_goals clear g0 g1 g2 g3
        all_goals generalize W.alloc (.cells #[.int .i64 kd, .int .u64 n, .int .i64 sz, .string s] 30) = w5 at *
        all_goals generalize W.heap.size = x at *
        · go_ret
          exact ⟨rfl, H5.out.2.2⟩
        · -- Put
          obtain ⟨B, hBe, hB8⟩ : ∃ B, bytesLE n (min (max sz 1) 8).toNat = B ∧ B.length ≤ 8 := ⟨_, rfl, by rw [bytesLE_length]; omega⟩
          have hrb : ∀ W', Calls Tryd.prog 9 #[.int .u64 n, .int .i64 sz] W' fun e w' => e = .returned (.string ⟨B.toArray⟩) ∧ KeptIn (· < W'.heap.size) W' w' := fun W' => by rw [← hBe]; exact rbytes n sz W' hn
          have HRB := Lib.hid hrb
          clear hrb
          refine (hPut (also (· < w.heap.size) x) a t n sz _ H5.out.1 H5.out.2.1 hn (by have := HL.out; omega)).mono ?_
          rintro e w6 ⟨rfl, h6, k6⟩
          rw [hBe] at h6
          clear hBe
          have hA6 := (k6.block x (.inr rfl)).trans HA5.out
          have q1 : w6.cell? ⟨x, 1, none⟩ = some (.int .u64 n) := by simp [World.cell?, hA6]
          have q2 : w6.cell? ⟨x, 2, none⟩ = some (.int .i64 sz) := by simp [World.cell?, hA6]
          have H6 := Lib.hid (And.intro h6 (And.intro (k6.lt H5.out.2.1) (H5.out.2.2.trans (k6.mono fun _ => .inl))))
          clear h6 k6 hA6 HA5 H5
          go_wp2_with fail
          refine (HRB.out _).mono ?_
          rintro e w7 ⟨rfl, k7⟩
          obtain ⟨t', ht', hlt'⟩ : ∃ t', t ++ B = t' ∧ t'.length = t.length + B.length := ⟨_, rfl, List.length_append⟩
          have happ : (⟨t.toArray⟩ : ByteArray) ++ ⟨B.toArray⟩ = ⟨t'.toArray⟩ := by rw [← ht']; exact append_bytes t B
          have hcat : ¬ 9223372036854775807 < t.length + B.length := by have := HL.out; omega
          have HB : Hid (t'.length ≤ 4096 + 100 * (j + 1)) := Lib.hid (by have := HL.out; omega)
          have h7 := H6.out.1.old k7
          rw [ht'] at h7
          have H7 := Lib.hid (And.intro h7 (And.intro ((k7.mono H6.out.2.1).lt H6.out.2.1) (H6.out.2.2.trans (k7.mono fun k h => H6.out.2.1 k (.inl h)))))
          have hl7 := HL.out
          clear h7 k7 H6 q1 q2 ht' HRB

          have hw : t'.length ≤ 2147483647 := by omega
          have HW := Lib.hid hw
          go_wp2_with fail
          refine (hString (also (· < w.heap.size) x) a t' _ H7.out.1 (H7.out.2.1) HW.out).mono ?_
          rintro e w8 ⟨rfl, h8, k8⟩
          have H8 : Hid (Holds (also (· < w.heap.size) x) a t' w8 ∧ KeptIn (· < w.heap.size) w w8) := Lib.hid ⟨h8, H7.out.2.2.trans (k8.mono fun _ => .inl)⟩
          clear h8 k8 H7
          go_wp2_with fail
          refine (hLen (also (· < w.heap.size) x) a t' _ H8.out.1 HW.out).mono ?_
          rintro e w9 ⟨rfl, m, hm⟩
          have H9 : Hid (t'.length ≤ 4096 + 100 * (j + 1) ∧ Holds (· < w.heap.size) a t' w9 ∧ KeptIn (· < w.heap.size) w w9) := by
            subst hm
            exact Lib.hid ⟨HB.out, (H8.out.1.old ((KeptIn.refl _ _).drewN m)).less (fun _ => .inl), H8.out.2.drewN m⟩
          clear hm H8 HW
          go_wp2_with fail
          go_roundw
          case rel => exact ⟨j + 1, _, t', rfl, by omega, by omega, by go_num, rfl, H9⟩
          case measure => simp [intOf]; omega
        · -- Text
          have hs1 : (s.size : Int) ≤ 100 := by assumption
          refine (hText (also (· < w.heap.size) x) a t s _ H5.out.1 H5.out.2.1 (by have := HL.out; omega)).mono ?_
          rintro e w7 ⟨rfl, h7, k7⟩
          have hA6 := (k7.block x (.inr rfl)).trans HA5.out
          have q3 : w7.cell? ⟨x, 3, none⟩ = some (.string s) := by simp [World.cell?, hA6]
          obtain ⟨t', ht', hlt'⟩ : ∃ t', t ++ s.data.toList = t' ∧ t'.length = t.length + s.size := ⟨_, rfl, by rw [List.length_append, Lib.size_eq]⟩
          have happ : (⟨t.toArray⟩ : ByteArray) ++ s = ⟨t'.toArray⟩ := by
            rw [← ht', ← append_bytes, Lib.mk_data]
          have hcat : ¬ 9223372036854775807 < t.length + s.size := by have := HL.out; omega
          have HB : Hid (t'.length ≤ 4096 + 100 * (j + 1)) := Lib.hid (by have := HL.out; omega)
          rw [ht'] at h7
          have H7 := Lib.hid (And.intro h7 (And.intro (k7.lt H5.out.2.1) (H5.out.2.2.trans (k7.mono fun _ => .inl))))
          have hl7 := HL.out
          clear h7 k7 hA6 ht' HA5 H5

          have hw : t'.length ≤ 2147483647 := by omega
          have HW := Lib.hid hw
          go_wp2_with fail
          refine (hString (also (· < w.heap.size) x) a t' _ H7.out.1 (H7.out.2.1) HW.out).mono ?_
          rintro e w8 ⟨rfl, h8, k8⟩
          have H8 : Hid (Holds (also (· < w.heap.size) x) a t' w8 ∧ KeptIn (· < w.heap.size) w w8) := Lib.hid ⟨h8, H7.out.2.2.trans (k8.mono fun _ => .inl)⟩
          clear h8 k8 H7
          go_wp2_with fail
          refine (hLen (also (· < w.heap.size) x) a t' _ H8.out.1 HW.out).mono ?_
          rintro e w9 ⟨rfl, m, hm⟩
          have H9 : Hid (t'.length ≤ 4096 + 100 * (j + 1) ∧ Holds (· < w.heap.size) a t' w9 ∧ KeptIn (· < w.heap.size) w w9) := by
            subst hm
            exact Lib.hid ⟨HB.out, (H8.out.1.old ((KeptIn.refl _ _).drewN m)).less (fun _ => .inl), H8.out.2.drewN m⟩
          clear hm H8 HW
          go_wp2_with fail
          go_roundw
          case rel => exact ⟨j + 1, _, t', rfl, by omega, by omega, by go_num, rfl, H9⟩
          case measure => simp [intOf]; omega
        · go_ret
          exact ⟨rfl, H5.out.2.2⟩
        · -- Fill
          have hs1 : (s.size : Int) ≤ 100 := by assumption
          have hz1 : sz ≤ 4096 := by assumption
          refine (hFill (also (· < w.heap.size) x) a t sz _ H5.out.1 (by have := HL.out; omega) (by omega)).mono ?_
          rintro e w7 ⟨rfl, h7, k7⟩
          have hA6 := (k7.block x (.inr rfl)).trans HA5.out
          have q2 : w7.cell? ⟨x, 2, none⟩ = some (.int .i64 sz) := by simp [World.cell?, hA6]
          have hl7 := HL.out
          have H7 := Lib.hid (And.intro h7 (And.intro (k7.lt H5.out.2.1) (H5.out.2.2.trans (k7.mono fun _ => .inl))))
          clear h7 k7 hA6 HA5 H5
          go_wp2_with fail
          go_loop [4] (fun v => ∃ i : Nat, i ≤ sz.toNat - t.length ∧ v = .string ⟨(t ++ List.replicate i 0).toArray⟩) (fun v => (sz - (strLen v : Int)).toNat)
          case atStart => exact ⟨0, Nat.zero_le _, by simp⟩
          case round =>
            obtain ⟨i, hi, rfl⟩ := hrel
            obtain ⟨u, hu, hul⟩ : ∃ u, t ++ List.replicate i 0 = u ∧ u.length = t.length + i := ⟨_, rfl, by simp⟩
            rw [hu]
            have HU := Lib.hid hu; clear hu
            by_cases hlt2 : (u.length : Int) < sz
            · have happ : (⟨u.toArray⟩ : ByteArray) ++ ⟨#[0]⟩ = ⟨(t ++ List.replicate (i + 1) 0).toArray⟩ := by
                have e : u ++ [0] = t ++ List.replicate (i + 1) 0 := by rw [← HU.out, List.append_assoc, List.replicate_succ']
                rw [← e]
                exact append_bytes u [0]
              have hcat : ¬ 9223372036854775807 < u.length + 1 := by omega
              have HUL := Lib.hid hul; clear hul
              go_wp2_with fail
              go_round
              case rel => exact ⟨i + 1, by have := HUL.out; omega, rfl⟩
              case measure =>
                have e := HUL.out
                have e2 : strLen (.string ⟨(t ++ List.replicate (i + 1) 0).toArray⟩) = t.length + (i + 1) := by
                  show (t ++ List.replicate (i + 1) 0).toArray.size = _
                  simp
                have e3 : strLen (.string ⟨u.toArray⟩) = u.length := by
                  show u.toArray.size = _
                  simp
                rw [e2, e3]
                omega
            · obtain rfl : i = sz.toNat - t.length := by omega
              obtain ⟨t', rfl⟩ : ∃ t', t' = u := ⟨_, rfl⟩
              have HB : Hid (t'.length ≤ 4096 + 100 * (j + 1)) := Lib.hid (by omega)
              have h7 := H7.out
              rw [HU.out] at h7
              have HUL := Lib.hid hul
              clear H7 hul HU
              have H7 := Lib.hid h7
              clear h7
              have hlt' := HUL.out

              have hw : t'.length ≤ 2147483647 := by omega
              have HW := Lib.hid hw
              go_wp2_with fail
              refine (hString (also (· < w.heap.size) x) a t' _ H7.out.1 (H7.out.2.1) HW.out).mono ?_
              rintro e w8 ⟨rfl, h8, k8⟩
              have H8 : Hid (Holds (also (· < w.heap.size) x) a t' w8 ∧ KeptIn (· < w.heap.size) w w8) := Lib.hid ⟨h8, H7.out.2.2.trans (k8.mono fun _ => .inl)⟩
              clear h8 k8 H7
              go_wp2_with fail
              refine (hLen (also (· < w.heap.size) x) a t' _ H8.out.1 HW.out).mono ?_
              rintro e w9 ⟨rfl, m, hm⟩
              have H9 : Hid (t'.length ≤ 4096 + 100 * (j + 1) ∧ Holds (· < w.heap.size) a t' w9 ∧ KeptIn (· < w.heap.size) w w9) := by
                subst hm
                exact Lib.hid ⟨HB.out, (H8.out.1.old ((KeptIn.refl _ _).drewN m)).less (fun _ => .inl), H8.out.2.drewN m⟩
              clear hm H8 HW
              go_wp2_with fail
              go_roundw
              case rel => exact ⟨j + 1, _, t', rfl, by omega, by omega, by go_num, rfl, H9⟩
              case measure => simp [intOf]; omega
      · go_wp2_with fail
        go_ret
        exact ⟨rfl, HJ.out.2.2⟩
    · go_wp2_with fail
      go_ret
      exact ⟨rfl, HJ.out.2.2⟩

end Go.Proofs.YtifealfkcfcbeaaDoor
