/- Order: how far from 0 the number of digits is. -/
import Derived.Test.YtlldmebjgidbaaaDoorNm20
set_option linter.unusedVariables false
namespace Go.Proofs.YtlldmebjgidbaaaDoor
open Go.RowKit

/-- A string's iterator at block k, at place pos of the text l. -/
def Itr (k : Nat) (l : List UInt8) (pos : Nat) (w : World) : Prop := w.heap[k]? = some (.stringIter ⟨l.toArray⟩ pos)

theorem Itr.lt {k : Nat} {l : List UInt8} {pos : Nat} {w : World} (h : Itr k l pos w) : k < w.heap.size := (Array.getElem?_eq_some_iff.1 h).1
theorem Itr.pos_eq {k : Nat} {l : List UInt8} {pos : Nat} {w : World} (h : Itr k l pos w) : w.iterPos k = pos := by
  unfold World.iterPos
  rw [show w.heap[k]? = _ from h]

theorem Itr.next {k : Nat} {l : List UInt8} {pos r q : Nat} {w : World} (h : Itr k l pos w) (hp : pos < l.length) (hd : Lib.decodeL (l.drop pos) = (r, q)) (ty : TypeId) :
    (Instr.next (.pointer (some ⟨k, 0, none⟩)) true ty).run Tryd.prog w = .ok (.tuple #[.bool true, .int .i64 (pos : Int), .int .i32 (r : Int)]) (w.iterAt k ⟨l.toArray⟩ (pos + q)) := by
  have e : Utf8.decode ⟨l.toArray⟩ pos = (r, q) := by
    rw [← Lib.decodeL_drop]
    exact hd
  have := Lib.run_next_any_at (P := Tryd.prog) w k ⟨l.toArray⟩ pos ty h (by simpa [ByteArray.size] using hp)
  rw [e] at this
  exact this

theorem Itr.stop {k : Nat} {l : List UInt8} {pos : Nat} {w : World} (h : Itr k l pos w) (hp : ¬ pos < l.length) (ty : TypeId) :
    (Instr.next (.pointer (some ⟨k, 0, none⟩)) true ty).run Tryd.prog w = .ok (.tuple #[.bool false]) w :=
  Lib.run_next_end_at (P := Tryd.prog) w k ⟨l.toArray⟩ pos ty h (by simpa [ByteArray.size] using hp)

theorem Itr.on {k : Nat} {l : List UInt8} {pos : Nat} {w : World} (h : Itr k l pos w) (p : Nat) : Itr k l p (w.iterAt k ⟨l.toArray⟩ p) := Lib.iterAt_heap w k _ pos p h

theorem KeptIn.iterAt {X : Nat → Prop} {a w : World} (h : KeptIn X a w) {k : Nat} (hk : ¬ X k) (s : ByteArray) (p : Nat) : KeptIn X a (w.iterAt k s p) :=
  h.trans ⟨rfl, rfl, rfl, by rw [Lib.iterAt_size]; exact Nat.le_refl _, fun i hi => Lib.iterAt_other w k i s p (fun e => hk (e ▸ hi))⟩

theorem Itr.fresh (w : World) (l : List UInt8) : Itr w.heap.size l 0 (w.alloc (.stringIter ⟨l.toArray⟩ 0)) := heap_alloc_new w _

def dstR (l : List UInt8) : Nat × Bool := match dst true 0 (pl l) with
  | none => (0, false)
  | some far => (far, decide (l ≠ []))

theorem run_w (l : List UInt8) (h : l ≠ []) : 1 ≤ (Lib.decodeL l).2 := Lib.decodeL_width l
theorem run_r (l : List UInt8) : (Lib.decodeL l).1 ≤ 1114111 := Lib.decodeL_rune l

/-- What the round does: on, or the end. -/
theorem dst_round (l : List UInt8) (fst : Bool) (far r q : Nat) (h : l ≠ []) (hd : Lib.decodeL l = (r, q)) (hf : far ≤ 9223372036854775808) :
    (dgb r = false → dst fst far (pl l) = none) ∧
    (dgb r = true → dgv r ≤ 9 ∧ (fst = false ∧ far = 0 → dst fst far (pl l) = none) ∧
      (¬ (fst = false ∧ far = 0) → 9223372036854775808 < 10 * far + dgv r → dst fst far (pl l) = none) ∧
      (¬ (fst = false ∧ far = 0) → ¬ 9223372036854775808 < 10 * far + dgv r → dst fst far (pl l) = dst false (10 * far + dgv r) (pl (l.drop q)))) := by
  have R := pl_run l h
  rw [hd] at R
  simp only at R
  obtain ⟨A, B, C⟩ := R
  by_cases h1 : 48 ≤ r ∧ r ≤ 57
  · obtain ⟨e1, e2⟩ := A h1
    have ev : dgv r = r - 48 := by unfold dgv; rw [if_pos h1]
    have eb : dgb r = true := by unfold dgb; simp [h1]
    have en : (UInt8.ofNat r).toNat = r := by simp; omega
    have eg : isDg (UInt8.ofNat r) = true := by unfold isDg; exact decide_eq_true (by omega)
    refine ⟨fun e => by rw [eb] at e; exact absurd e (by simp), fun _ => ⟨by omega, fun k => ?_, fun k k2 => ?_, fun k k2 => ?_⟩⟩
    · rw [e2]; simp only [dst]; rw [if_pos (Or.inr (Or.inl k))]
    · rw [e2]; simp only [dst]; rw [if_pos (Or.inr (Or.inr (by rw [en]; omega)))]
    · rw [e2, e1]
      simp only [dst]
      rw [if_neg, en, ev]
      rintro (k3 | k3 | k3)
      · rw [eg] at k3; exact absurd k3 (by simp)
      · exact k k3
      · rw [en] at k3; omega
  · by_cases h2 : 65296 ≤ r ∧ r ≤ 65305
    · obtain ⟨e1, _, e2⟩ := B h2
      have ev : dgv r = r - 65296 := by unfold dgv; rw [if_neg h1, if_pos h2]
      have eb : dgb r = true := by unfold dgb; simp [h2]
      have en : (UInt8.ofNat (r - 65248)).toNat = r - 65248 := by simp; omega
      have eg : isDg (UInt8.ofNat (r - 65248)) = true := by unfold isDg; exact decide_eq_true (by omega)
      refine ⟨fun e => by rw [eb] at e; exact absurd e (by simp), fun _ => ⟨by omega, fun k => ?_, fun k k2 => ?_, fun k k2 => ?_⟩⟩
      · rw [e2]; simp only [dst]; rw [if_pos (Or.inr (Or.inl k))]
      · rw [e2]; simp only [dst]; rw [if_pos (Or.inr (Or.inr (by rw [en]; omega)))]
      · rw [e2, e1]
        simp only [dst]
        rw [if_neg, en, ev]
        · rw [show r - 65248 - 48 = r - 65296 by omega]
        · rintro (k3 | k3 | k3)
          · rw [eg] at k3; exact absurd k3 (by simp)
          · exact k k3
          · rw [en] at k3; omega
    · have eb : dgb r = false := by unfold dgb; simp [h1, h2]
      obtain ⟨a, m, e1, e2⟩ := C h1 h2
      refine ⟨fun _ => ?_, fun e => by rw [eb] at e; exact absurd e (by simp)⟩
      rw [e1]
      simp only [dst]
      rw [if_pos (Or.inl e2)]

theorem far_num (far d : Nat) (hd : d ≤ 9) (h : 10 * far + d ≤ 9223372036854775808) : IntKind.u64.wrap (IntKind.u64.wrap (10 * (far : Int)) + (d : Int)) = ((10 * far + d : Nat) : Int) := by
  simp only [IntKind.wrap_u64]; omega
theorem far_test (far d : Nat) (hd : d ≤ 9) : decide (IntKind.u64.wrap (Int.tdiv (IntKind.u64.wrap (9223372036854775808 - (d : Int))) 10) < (far : Int)) = decide (9223372036854775808 < 10 * far + d) := by
  simp only [IntKind.wrap_u64]
  rw [Int.tdiv_eq_ediv_of_nonneg (by omega)]
  congr 1
  apply propext
  omega

set_option maxRecDepth 1000000 in
set_option maxHeartbeats 4000000 in
theorem oDist (l : List UInt8) (hl : l.length ≤ 1099511627776) (w : World) :
    Calls Tryd.prog 38 #[.string ⟨l.toArray⟩] w fun e w' => e = .returned (.tuple #[.int .u64 (((dstR l).1 : Nat) : Int), .bool (dstR l).2]) ∧ KeptIn (· < w.heap.size) w w' := by
  go_enter Tryd.func38, Tryd.ntmps38
  go_wp2_with fail
  go_loopw [4] (fun f wr => ∃ (pos far : Nat) (V : World), V = wr ∧ f = .int .u64 (far : Int) ∧ Hid (Itr w.heap.size l pos V ∧ KeptIn (· < w.heap.size) w V ∧ far ≤ 9223372036854775808 ∧ dst (decide (pos = 0)) far (pl (l.drop pos)) = dst true 0 (pl l))) (fun _ wr => l.length - wr.iterPos w.heap.size)
  case atStart =>
    refine ⟨0, 0, _, rfl, rfl, Itr.fresh w l, (KeptIn.refl _ _).alloc (fun _ h => h) _, by omega, by simp⟩
  case round =>
    obtain ⟨pos, far, V, rfl, rfl, H⟩ := hrel
    obtain ⟨hI, hK, hf, hD⟩ := H.out
    clear H
    by_cases hp : pos < l.length
    · obtain ⟨r, q, hd⟩ : ∃ r q, Lib.decodeL (l.drop pos) = (r, q) := ⟨_, _, rfl⟩
      have hnx := hI.next hp hd
      have hne : l.drop pos ≠ [] := fun e => by have := congrArg List.length e; simp at this; omega
      have hr : r ≤ 2147483647 := by have := run_r (l.drop pos); rw [hd] at this; simp only at this; omega
      have hq : 1 ≤ q := by have := run_w (l.drop pos) hne; rw [hd] at this; exact this
      have hI2 := Lib.hid (hI.on (pos + q))
      have hK2 := Lib.hid (hK.iterAt (k := w.heap.size) (Nat.lt_irrefl _) ⟨l.toArray⟩ (pos + q))
      have hM : Hid (V.iterPos w.heap.size = pos) := Lib.hid hI.pos_eq
      obtain ⟨R1, R2⟩ := dst_round (l.drop pos) (decide (pos = 0)) far r q hne hd hf
      rw [hD] at R1 R2
      rw [List.drop_drop] at R2
      have C := oDigit r hr (V.iterAt w.heap.size ⟨l.toArray⟩ (pos + q))
      obtain ⟨b, hb⟩ : ∃ b, dgb r = b := ⟨_, rfl⟩
      obtain ⟨d, hdv⟩ : ∃ d, dgv r = d := ⟨_, rfl⟩
      rw [hb] at R1 R2 C
      rw [hdv] at R2 C
      clear hd hb hdv hne hD hr hI hK
      have hp := Lib.hid hp
      obtain ⟨W, hW⟩ : ∃ W, V.iterAt w.heap.size ⟨l.toArray⟩ (pos + q) = W := ⟨_, rfl⟩
      rw [hW] at hnx hI2 hK2 C
      have C := Lib.hid C
      have hq := Lib.hid hq
      clear hW
      cases b with
      | false =>
        have R := Lib.hid (R1 rfl)
        clear R1 R2
        go_wp2_with fail
        refine C.out.mono ?_
        rintro e _ ⟨rfl, rfl⟩
        go_wp2_with fail
        go_ret2
        refine ⟨?_, hK2.out⟩
        unfold dstR
        rw [R.out]
        rfl
      | true =>
        obtain ⟨hd9, Q1, Q2, Q3⟩ := R2 rfl
        clear R1 R2
        have ft := far_test far d hd9
        by_cases k1 : decide (pos = 0) = false ∧ far = 0
        · have R := Lib.hid (Q1 k1)
          have k2 : decide ((pos : Int) > 0) = true := decide_eq_true (by have := of_decide_eq_false k1.1; omega)
          have k3 : decide (0 < (pos : Int)) = true := k2
          have k4 : decide (0 < pos) = true := decide_eq_true (by have := of_decide_eq_false k1.1; omega)
          obtain rfl : far = 0 := k1.2
          clear Q1 Q2 Q3 k1 ft hd9 hf
          go_wp2_with fail
          refine C.out.mono ?_
          rintro e _ ⟨rfl, rfl⟩
          go_wp2_with fail
          go_ret2
          refine ⟨?_, hK2.out⟩
          unfold dstR
          rw [R.out]
          rfl
        · by_cases k5 : 9223372036854775808 < 10 * far + d
          · have R := Lib.hid (Q2 k1 k5)
            rw [decide_eq_true k5] at ft
            clear Q1 Q2 Q3 hd9 hf k5
            by_cases h0 : pos = 0
            · have k2 : decide ((pos : Int) > 0) = false := decide_eq_false (by omega)
              have k3 : decide (0 < (pos : Int)) = false := k2
              have k4 : decide (0 < pos) = false := decide_eq_false (by omega)
              have h0 := Lib.hid h0
              clear k1
              go_wp2_with fail
              refine C.out.mono ?_
              rintro e _ ⟨rfl, rfl⟩
              go_wp2_with fail
              go_ret2
              refine ⟨?_, hK2.out⟩
              unfold dstR
              rw [R.out]
              rfl
            · have k2 : decide ((pos : Int) > 0) = true := decide_eq_true (by omega)
              have k3 : decide (0 < (pos : Int)) = true := k2
              have k4 : decide (0 < pos) = true := decide_eq_true (by omega)
              have hz : far ≠ 0 := fun e => k1 ⟨decide_eq_false h0, e⟩
              have k7 : ((far : Int) == 0) = false := beq_eq_false_iff_ne.2 (by omega)
              have k8 : (far == 0) = false := beq_eq_false_iff_ne.2 hz
              have k9 : decide ((far : Int) = 0) = false := decide_eq_false (by omega)
              have h0 := Lib.hid h0
              have hz := Lib.hid hz
              clear k1
              go_wp2_with fail
              refine C.out.mono ?_
              rintro e _ ⟨rfl, rfl⟩
              go_wp2_with fail
              go_ret2
              refine ⟨?_, hK2.out⟩
              unfold dstR
              rw [R.out]
              rfl
          · have R := Lib.hid (Q3 k1 k5)
            have fn := far_num far d hd9 (by omega)
            have k6 := Lib.hid k5
            rw [decide_eq_false k5] at ft
            clear Q1 Q2 Q3 hd9 hf k5
            by_cases h0 : pos = 0
            · have k2 : decide ((pos : Int) > 0) = false := decide_eq_false (by omega)
              have k3 : decide (0 < (pos : Int)) = false := k2
              have k4 : decide (0 < pos) = false := decide_eq_false (by omega)
              have h0 := Lib.hid h0
              clear k1
              go_wp2_with fail
              refine C.out.mono ?_
              rintro e _ ⟨rfl, rfl⟩
              go_wp2_with fail
              go_roundw
              case rel =>
                refine ⟨pos + q, 10 * far + d, _, rfl, by first | exact congrArg (Value.int .u64) fn | rfl, hI2.out, hK2.out, ?_, ?_⟩
                · have := k6.out; omega
                · rw [R.out]
                  congr 1
                  have := hq.out
                  exact decide_eq_false (by omega)
              case measure =>
                rw [hI2.out.pos_eq, hM.out]
                have h1 := hp.out
                have h2 := hq.out
                omega
            · have k2 : decide ((pos : Int) > 0) = true := decide_eq_true (by omega)
              have k3 : decide (0 < (pos : Int)) = true := k2
              have k4 : decide (0 < pos) = true := decide_eq_true (by omega)
              have hz : far ≠ 0 := fun e => k1 ⟨decide_eq_false h0, e⟩
              have k7 : ((far : Int) == 0) = false := beq_eq_false_iff_ne.2 (by omega)
              have k8 : (far == 0) = false := beq_eq_false_iff_ne.2 hz
              have k9 : decide ((far : Int) = 0) = false := decide_eq_false (by omega)
              have h0 := Lib.hid h0
              have hz := Lib.hid hz
              clear k1
              go_wp2_with fail
              refine C.out.mono ?_
              rintro e _ ⟨rfl, rfl⟩
              go_wp2_with fail
              go_roundw
              case rel =>
                refine ⟨pos + q, 10 * far + d, _, rfl, by first | exact congrArg (Value.int .u64) fn | rfl, hI2.out, hK2.out, ?_, ?_⟩
                · have := k6.out; omega
                · rw [R.out]
                  congr 1
                  have := hq.out
                  exact decide_eq_false (by omega)
              case measure =>
                rw [hI2.out.pos_eq, hM.out]
                have h1 := hp.out
                have h2 := hq.out
                omega
    · have hnx := hI.stop hp
      have hD2 : Hid (dst true 0 (pl l) = some far) := by
        rw [← hD, List.drop_eq_nil_of_le (by omega), pl_nil]
        exact Lib.hid rfl
      have hK2 := Lib.hid hK
      clear hD hK hI
      go_wp2_with fail
      go_ret2
      refine ⟨?_, hK2.out⟩
      unfold dstR
      rw [hD2.out]
      cases l <;> rfl

end Go.Proofs.YtlldmebjgidbaaaDoor
