/- Package castle's Seal and Open, and the reference's. -/
import Derived.Test.YtdogchpeimgkjaaDoorCsum
import Derived.Test.YtdogchpeimgkjaaDoorRef1
set_option linter.unusedVariables false
namespace Go.Proofs.YtdogchpeimgkjaaDoor
open Go.RowKit

/-- What is sealed. -/
def sealOf (l : List UInt8) : List UInt8 := l ++ bytesLE (sumOf l) 4
theorem sealOf_length (l : List UInt8) : (sealOf l).length = l.length + 4 := by simp [sealOf, bytesLE_length]

set_option maxRecDepth 100000 in
theorem castleSeal (l : List UInt8) (w : World) (hT : Tab w) (hl : l.length ≤ 65536) :
    Calls Tryd.prog 16 #[.string ⟨l.toArray⟩] w fun e w' => e = .returned (.string ⟨(sealOf l).toArray⟩) ∧ KeptIn (· < w.heap.size) w w' := by
  obtain ⟨X, hXd⟩ : ∃ X : Nat → Prop, X = (· < w.heap.size) := ⟨_, rfl⟩
  rw [← hXd]
  obtain ⟨a, ha⟩ : ∃ a, a = w.heap.size := ⟨_, rfl⟩
  have hX : ∀ k, X k → k < w.heap.size := fun k h => by rw [hXd] at h; exact h
  have hXg : X 0 := by rw [hXd]; exact hT.lt
  have h0 : Holds X a [] (w.alloc (.cells #[.pointer none, .int .i64 0, .int .i64 0] 49)) := ha ▸ Holds.fresh X w hX
  have k0 : KeptIn X w (w.alloc (.cells #[.pointer none, .int .i64 0, .int .i64 0] 49)) := (KeptIn.refl _ _).alloc hX _
  have Hd := Lib.hid hXd; clear hXd
  have HT := Lib.hid hT
  have HL := Lib.hid hl
  have hv := sumOf_lt l
  have HV := Lib.hid hv
  have s0 : (0 : Int) ≤ ((sumOf l : Nat) : Int) := by omega
  have s1 : ((sumOf l : Nat) : Int) ≤ 4294967295 := by omega
  have HS := Lib.hid (show sealOf l = l ++ bytesLE (sumOf l) 4 from rfl)
  clear hT hl hv
  go_enter Tryd.func16, Tryd.ntmps16
  go_wp2_with fail
  rw [← ha]
  clear ha
  refine (hText X a [] ⟨l.toArray⟩ _ h0 (k0.lt hX) ?_).mono ?_
  · have := HL.out
    show 0 + l.toArray.size ≤ _
    rw [List.size_toArray]
    omega
  rintro e w1 ⟨rfl, h1, k1⟩
  replace h1 : Holds X a l w1 := h1
  replace k1 := k0.trans k1
  clear h0 k0
  go_wp2_with fail
  refine (castleSum l w1 (HT.out.kept k1 hXg) (by have := HL.out; omega)).mono ?_
  rintro e _ ⟨rfl, rfl⟩
  generalize sumOf l = v at *
  go_wp2_with fail
  refine (hPut X a l v 4 _ h1 (k1.lt hX) (by have := HV.out; omega) (by have := HL.out; omega)).mono ?_
  rintro e w2 ⟨rfl, h2, k2⟩
  replace h2 : Holds X a (l ++ bytesLE v 4) w2 := h2
  replace k2 := k1.trans k2
  clear h1 k1
  go_wp2_with fail
  refine (hString X a _ _ h2 (k2.lt hX) (by rw [List.length_append, bytesLE_length]; have := HL.out; omega)).mono ?_
  rintro e w3 ⟨rfl, h3, k3⟩
  replace k3 := k2.trans k3
  clear h2 k2
  go_wp2
  go_ret
  rw [HS.out]
  exact ⟨rfl, k3⟩

theorem append_lists (l m : List UInt8) : (⟨l.toArray⟩ : ByteArray) ++ ⟨m.toArray⟩ = ⟨(l ++ m).toArray⟩ := by
  apply ByteArray.ext
  simp

set_option maxRecDepth 100000 in
theorem refSeal (l : List UInt8) (w : World) (hl : l.length ≤ 65536) :
    Calls Tryd.prog 20 #[.string ⟨l.toArray⟩] w fun e w' => e = .returned (.string ⟨(sealOf l).toArray⟩) ∧ KeptIn (· < w.heap.size) w w' := by
  have HL := Lib.hid hl
  have hv := sumOf_lt l
  have HV := Lib.hid hv
  have s0 : (0 : Int) ≤ ((sumOf l : Nat) : Int) := by omega
  have s1 : ((sumOf l : Nat) : Int) ≤ 4294967295 := by omega
  have hcat : ¬ 9223372036854775807 < l.length + 4 := by omega
  have HS := Lib.hid (show sealOf l = l ++ bytesLE (sumOf l) 4 from rfl)
  clear hl hv
  go_enter Tryd.func20, Tryd.ntmps20
  go_wp2_with fail
  refine (refSum l w (by have := HL.out; omega)).mono ?_
  rintro e _ ⟨rfl, rfl⟩
  generalize sumOf l = v at *
  go_wp2_with fail
  refine (rbytes v 4 _ (by have := HV.out; omega)).mono ?_
  rintro e w1 ⟨rfl, k1⟩
  have hb : (bytesLE v (min (max 4 1) 8 : Int).toNat).length = 4 := bytesLE_length ..
  obtain ⟨m, hm⟩ : ∃ m, m = bytesLE v (min (max 4 1) 8 : Int).toNat := ⟨_, rfl⟩
  rw [← hm] at hb ⊢
  have HM := Lib.hid hm
  clear hm
  go_wp2
  go_ret
  rw [HS.out, show bytesLE v 4 = m from HM.out.symm]
  exact ⟨congrArg (fun s => Ending.returned (Value.string s)) (append_lists l m), k1⟩

/-- What is opened. -/
def openIs (l : List UInt8) : Bool := decide (4 ≤ l.length) && numLE (l.drop (l.length - 4)) == sumOf (l.take (l.length - 4))
def openOf (l : List UInt8) : List UInt8 := if openIs l then l.take (l.length - 4) else []

theorem bytesLE_numLE (q : List UInt8) : bytesLE (numLE q) q.length = q := by
  induction q with
  | nil => rfl
  | cons x r ih =>
    have hx := x.toNat_lt
    rw [List.length_cons, bytesLE, numLE, show (x.toNat + 256 * numLE r) / 256 = numLE r from by omega, ih]
    congr 1
    apply UInt8.toNat_inj.1
    simp

theorem openIs_sealed (l : List UInt8) (h : 4 ≤ l.length) : (openIs l = true) ↔ sealOf (l.take (l.length - 4)) = l := by
  unfold openIs sealOf
  have hq : (l.drop (l.length - 4)).length = 4 := by rw [List.length_drop]; omega
  have hs := sumOf_lt (l.take (l.length - 4))
  generalize hp : l.take (l.length - 4) = p at *
  generalize hqe : l.drop (l.length - 4) = q at *
  have hl : l = p ++ q := by rw [← hp, ← hqe, List.take_append_drop]
  have e : bytesLE (numLE q) 4 = q := by have := bytesLE_numLE q; rwa [hq] at this
  simp only [decide_eq_true h, Bool.true_and, beq_iff_eq]
  rw [hl]
  constructor
  · intro h1
    rw [← h1, e]
  · intro h1
    have h2 : bytesLE (sumOf p) 4 = q := List.append_cancel_left h1
    rw [← h2, numLE_bytesLE]
    exact Nat.mod_eq_of_lt hs

end Go.Proofs.YtdogchpeimgkjaaDoor
