import Derived.Test.YtkgjmejgkffbdaaGreatDoorM7
import Derived.Test.YtkgjmejgkffbdaaGreatDoorRef1L
import Derived.Test.YtkgjmejgkffbdaaGreatDoorM6
import Derived.Test.YtkgjmejgkffbdaaGreatDoorConvL
import Derived.Deep.QuietTactic
import Derived.BigQuiet
import Derived.BigRegion
import Derived.Deep.RegionHeld3
import Derived.LoopTactic
import Derived.Outline
import Derived.Lib.Hide
import Derived.Test.YtkgjmejgkffbdaaGreatDoorM1
/- Package castle's Seal and Open, and the reference's. -/
set_option linter.unusedVariables false
namespace Go.Proofs.YtkgjmejgkffbdaaGreatDoor
open Go.RowKit

/-- What is sealed. -/
def sealOf (l : List UInt8) : List UInt8 := l ++ bytesLE (sumOf l) 4
theorem sealOf_length (l : List UInt8) : (sealOf l).length = l.length + 4 := by simp [sealOf, bytesLE_length]

set_option maxRecDepth 100000 in
theorem castleSeal (l : List UInt8) (w : World) (hT : Tab w) (hl : l.length ≤ 65536) :
    Calls Tryz.prog 65 #[.string ⟨l.toArray⟩] w fun e w' => e = .returned (.string ⟨(sealOf l).toArray⟩) ∧ KeptIn (· < w.heap.size) w w' := by
  obtain ⟨X, hXd⟩ : ∃ X : Nat → Prop, X = (· < w.heap.size) := ⟨_, rfl⟩
  rw [← hXd]
  obtain ⟨a, ha⟩ : ∃ a, a = w.heap.size := ⟨_, rfl⟩
  have hX : ∀ k, X k → k < w.heap.size := fun k h => by rw [hXd] at h; exact h
  have hXg : X 0 := by rw [hXd]; exact hT.lt
  have h0 : Holds X a [] (w.alloc (.cells #[.pointer none, .int .i64 0, .int .i64 0] 130)) := ha ▸ Holds.fresh X w hX
  have k0 : KeptIn X w (w.alloc (.cells #[.pointer none, .int .i64 0, .int .i64 0] 130)) := (KeptIn.refl _ _).alloc hX _
  have Hd := Lib.hid hXd; clear hXd
  have HT := Lib.hid hT
  have HL := Lib.hid hl
  have hv := sumOf_lt l
  have HV := Lib.hid hv
  have s0 : (0 : Int) ≤ ((sumOf l : Nat) : Int) := by omega
  have s1 : ((sumOf l : Nat) : Int) ≤ 4294967295 := by omega
  have HS := Lib.hid (show sealOf l = l ++ bytesLE (sumOf l) 4 from rfl)
  clear hT hl hv
  go_enter Tryz.func65, Tryz.ntmps65
  go_wp2_with fail
  rw [← ha]
  clear ha
  refine (hText X a [] ⟨l.toArray⟩ _ h0 (k0.lt hX) ?_).mono ?_
  · have := HL.out
    show 0 + l.toArray.size ≤ _
    rw [List.size_toArray]
    omega
  rintro e w1 ⟨rfl, h1, k1⟩
  replace h1 : Holds X a l w1 := h1
  replace k1 := k0.trans k1
  clear h0 k0
  go_wp2_with fail
  refine (castleSum l w1 (HT.out.kept k1 hXg) (by have := HL.out; omega)).mono ?_
  rintro e _ ⟨rfl, rfl⟩
  generalize sumOf l = v at *
  go_wp2_with fail
  refine (hPut X a l v 4 _ h1 (k1.lt hX) (by have := HV.out; omega) (by have := HL.out; omega)).mono ?_
  rintro e w2 ⟨rfl, h2, k2⟩
  replace h2 : Holds X a (l ++ bytesLE v 4) w2 := h2
  replace k2 := k1.trans k2
  clear h1 k1
  go_wp2_with fail
  refine (hString X a _ _ h2 (k2.lt hX) (by rw [List.length_append, bytesLE_length]; have := HL.out; omega)).mono ?_
  rintro e w3 ⟨rfl, h3, k3⟩
  replace k3 := k2.trans k3
  clear h2 k2
  go_wp2
  go_ret
  rw [HS.out]
  exact ⟨rfl, k3⟩

theorem append_lists (l m : List UInt8) : (⟨l.toArray⟩ : ByteArray) ++ ⟨m.toArray⟩ = ⟨(l ++ m).toArray⟩ := by
  apply ByteArray.ext
  simp

set_option maxRecDepth 100000 in
theorem refSeal (l : List UInt8) (w : World) (hl : l.length ≤ 65536) :
    Calls Tryz.prog 62 #[.string ⟨l.toArray⟩] w fun e w' => e = .returned (.string ⟨(sealOf l).toArray⟩) ∧ KeptIn (· < w.heap.size) w w' := by
  have HL := Lib.hid hl
  have hv := sumOf_lt l
  have HV := Lib.hid hv
  have s0 : (0 : Int) ≤ ((sumOf l : Nat) : Int) := by omega
  have s1 : ((sumOf l : Nat) : Int) ≤ 4294967295 := by omega
  have hcat : ¬ 9223372036854775807 < l.length + 4 := by omega
  have HS := Lib.hid (show sealOf l = l ++ bytesLE (sumOf l) 4 from rfl)
  clear hl hv
  go_enter Tryz.func62, Tryz.ntmps62
  go_wp2_with fail
  refine (refSum l w (by have := HL.out; omega)).mono ?_
  rintro e _ ⟨rfl, rfl⟩
  generalize sumOf l = v at *
  go_wp2_with fail
  refine (rbytes v 4 _ (by have := HV.out; omega)).mono ?_
  rintro e w1 ⟨rfl, k1⟩
  have hb : (bytesLE v (min (max 4 1) 8 : Int).toNat).length = 4 := bytesLE_length ..
  obtain ⟨m, hm⟩ : ∃ m, m = bytesLE v (min (max 4 1) 8 : Int).toNat := ⟨_, rfl⟩
  rw [← hm] at hb ⊢
  have HM := Lib.hid hm
  clear hm
  go_wp2
  go_ret
  rw [HS.out, show bytesLE v 4 = m from HM.out.symm]
  exact ⟨congrArg (fun s => Ending.returned (Value.string s)) (append_lists l m), k1⟩

/-- What is opened. -/
def openIs (l : List UInt8) : Bool := decide (4 ≤ l.length) && numLE (l.drop (l.length - 4)) == sumOf (l.take (l.length - 4))
def openOf (l : List UInt8) : List UInt8 := if openIs l then l.take (l.length - 4) else []

theorem bytesLE_numLE (q : List UInt8) : bytesLE (numLE q) q.length = q := by
  induction q with
  | nil => rfl
  | cons x r ih =>
    have hx := x.toNat_lt
    rw [List.length_cons, bytesLE, numLE, show (x.toNat + 256 * numLE r) / 256 = numLE r from by omega, ih]
    congr 1
    apply UInt8.toNat_inj.1
    simp

theorem openIs_sealed (l : List UInt8) (h : 4 ≤ l.length) : (openIs l = true) ↔ sealOf (l.take (l.length - 4)) = l := by
  unfold openIs sealOf
  have hq : (l.drop (l.length - 4)).length = 4 := by rw [List.length_drop]; omega
  have hs := sumOf_lt (l.take (l.length - 4))
  generalize hp : l.take (l.length - 4) = p at *
  generalize hqe : l.drop (l.length - 4) = q at *
  have hl : l = p ++ q := by rw [← hp, ← hqe, List.take_append_drop]
  have e : bytesLE (numLE q) 4 = q := by have := bytesLE_numLE q; rwa [hq] at this
  simp only [decide_eq_true h, Bool.true_and, beq_iff_eq]
  rw [hl]
  constructor
  · intro h1
    rw [← h1, e]
  · intro h1
    have h2 : bytesLE (sumOf p) 4 = q := List.append_cancel_left h1
    rw [← h2, numLE_bytesLE]
    exact Nat.mod_eq_of_lt hs

end Go.Proofs.YtkgjmejgkffbdaaGreatDoor
/- Package castle's Open, and the reference's. -/
set_option linter.unusedVariables false
namespace Go.Proofs.YtkgjmejgkffbdaaGreatDoor
open Go.RowKit

theorem takeR_head (p q : List UInt8) (hq : q.length = 4) : takeR (((p ++ q).length : Int) - 4) (p ++ q) false = (p, q, false) := by
  unfold takeR
  rw [List.length_append, hq]
  split
  · have : p.length = 0 := by omega
    rw [List.length_eq_zero_iff.1 this]; rfl
  · rw [if_neg (by omega), show (((p.length + 4 : Nat) : Int) - 4).toNat = p.length from by omega, List.take_left', List.drop_left']
    all_goals rfl

theorem takeR_tail (q : List UInt8) (hq : q.length = 4) : takeR 4 q false = (q, [], false) := by
  unfold takeR
  rw [if_neg (by decide), if_neg (by rw [hq]; decide), show (4 : Int).toNat = q.length from hq.symm, List.take_length, List.drop_length]

theorem takeR_short (l : List UInt8) (h : l.length < 4) : takeR ((l.length : Int) - 4) l false = ([], l, false) := by
  unfold takeR
  rw [if_pos (by omega)]
theorem takeR_short' (l : List UInt8) (h : l.length < 4) : takeR 4 l false = ([], [], true) := by
  unfold takeR
  rw [if_neg (by decide), if_pos (by omega)]

set_option maxHeartbeats 400000 in
set_option maxRecDepth 100000 in
theorem castleOpenLong (p q : List UInt8) (w : World) (hT : Tab w) (hq : q.length = 4) (hl : p.length ≤ 65536) :
    Calls Tryz.prog 82 #[.string ⟨(p ++ q).toArray⟩] w fun e w' => e = .returned (.tuple #[.string ⟨(if numLE q = sumOf p then p else []).toArray⟩, .bool (decide (numLE q = sumOf p))]) ∧ KeptIn (· < w.heap.size) w w' := by
  generalize hov : (if numLE q = sumOf p then p else []) = o
  generalize hbv : decide (numLE q = sumOf p) = is
  have HOV := Lib.hid hov
  have HBV := Lib.hid hbv
  clear hov hbv
  obtain ⟨r, hr⟩ : ∃ r, r = w.heap.size := ⟨_, rfl⟩
  have hle : ((p ++ q).length : Int) ≤ 65540 := by rw [List.length_append, hq]; omega
  have hh := takeR_head p q hq
  generalize hll : p ++ q = l at *
  have HT := Lib.hid hT
  have HL := Lib.hid hl
  have HH := Lib.hid hh
  have HE := Lib.hid hle
  have HQ := Lib.hid hq
  clear hT hl hll hh hq
  go_enter Tryz.func82, Tryz.ntmps82
  go_wp2_with fail
  refine (ofW _ w).mono ?_
  rintro e w1 ⟨rfl, r1, k1⟩
  replace r1 : IsR w.heap.size l false w1 := r1
  have hX1 : ∀ k, k < w.heap.size → k < w1.heap.size := k1.lt (fun _ h => h)
  rw [← hr] at r1 ⊢
  have hnr : ¬ (r < w.heap.size) := by omega
  clear hr
  go_wp2_with fail
  refine (takeW r _ _ ((l.length : Int) - 4) _ r1 (by have := HE.out; omega)).mono ?_
  rintro e w2 ⟨rfl, r2, k2⟩
  replace k2 := k1.trans (k2.mono (fun k h => by show k ≠ r; intro e; exact hnr (e ▸ h)))
  clear r1 k1 hX1
  rw [HH.out] at r2 ⊢
  replace r2 : IsR r q false w2 := r2
  go_wp2_with fail
  refine (getW (· < w.heap.size) r _ _ 4 _ r2 hnr (k2.lt (fun _ h => h)) (by have := HQ.out; omega)).mono ?_
  rintro e w3 ⟨rfl, r3, k3⟩
  replace k3 := k2.trans k3
  have hT3 := HT.out.kept k3 HT.out.lt
  clear r2 k2
  rw [show (min (max (4 : Int) 1) 8) = 4 from by decide, takeR_tail q HQ.out] at r3 ⊢
  replace r3 : IsR r [] false w3 := r3
  have hs := sumOf_lt p
  have hn : numLE q < 4294967296 := by have := numLE_lt q; rwa [HQ.out] at this
  obtain ⟨n, hne⟩ : ∃ n, numLE q = n := ⟨_, rfl⟩
  rw [show ((q, ([] : List UInt8), false) : List UInt8 × List UInt8 × Bool).1 = q from rfl, hne]
  rw [hne] at hn
  have R3 := Lib.hid r3
  have K3 := Lib.hid k3
  have T3 := Lib.hid hT3
  rw [hne] at HOV HBV
  clear r3 k3 hT3 hne
  have n0 : (0 : Int) ≤ (n : Int) := by omega
  have hsum := fun W (h : Tab W) => castleSum p W h (by have := HL.out; omega)
  generalize sumOf p = v at *
  have HS := Lib.hid hsum
  clear hsum
  have v0 : (0 : Int) ≤ (v : Int) := by omega
  have v1 : (v : Int) ≤ 4294967295 := by omega
  by_cases he : n = v
  · subst he
    obtain rfl : p = o := by have := HOV.out; rwa [if_pos rfl] at this
    obtain rfl : true = is := by have := HBV.out; rwa [decide_eq_true rfl] at this
    go_wp2_with fail
    refine (endW r _ _ _ R3.out).mono ?_
    rintro e _ ⟨rfl, rfl⟩
    rw [show endOf [] false = 0 from by decide]
    go_wp2_with fail
    refine (HS.out _ T3.out).mono ?_
    rintro e _ ⟨rfl, rfl⟩
    go_wp2
    go_ret2
    exact ⟨rfl, K3.out⟩
  · have he' : (((n : Int)) == (v : Int)) = false := by
      rw [beq_eq_false_iff_ne]; omega
    obtain rfl : [] = o := by have := HOV.out; rwa [if_neg he] at this
    obtain rfl : false = is := by have := HBV.out; rwa [decide_eq_false he] at this
    clear he
    go_wp2_with fail
    refine (endW r _ _ _ R3.out).mono ?_
    rintro e _ ⟨rfl, rfl⟩
    rw [show endOf [] false = 0 from by decide]
    go_wp2_with fail
    refine (HS.out _ T3.out).mono ?_
    rintro e _ ⟨rfl, rfl⟩
    go_wp2
    go_ret2
    exact ⟨rfl, K3.out⟩

set_option maxHeartbeats 400000 in
set_option maxRecDepth 100000 in
theorem castleOpenShort (l : List UInt8) (w : World) (hT : Tab w) (h4 : l.length < 4) :
    Calls Tryz.prog 82 #[.string ⟨l.toArray⟩] w fun e w' => e = .returned (.tuple #[.string ⟨#[]⟩, .bool false]) ∧ KeptIn (· < w.heap.size) w w' := by
  obtain ⟨r, hr⟩ : ∃ r, r = w.heap.size := ⟨_, rfl⟩
  have hle : (l.length : Int) ≤ 4 := by omega
  have H1 := Lib.hid (takeR_short l h4)
  have H2 := Lib.hid (takeR_short' l h4)
  have H4 := Lib.hid h4
  have HT := Lib.hid hT
  clear hT h4
  go_enter Tryz.func82, Tryz.ntmps82
  go_wp2_with fail
  refine (ofW _ w).mono ?_
  rintro e w1 ⟨rfl, r1, k1⟩
  replace r1 : IsR w.heap.size l false w1 := r1
  rw [← hr] at r1 ⊢
  have hnr : ¬ (r < w.heap.size) := by omega
  clear hr
  go_wp2_with fail
  refine (takeW r _ _ ((l.length : Int) - 4) _ r1 (by have := H4.out; omega)).mono ?_
  rintro e w2 ⟨rfl, r2, k2⟩
  replace k2 := k1.trans (k2.mono (fun k h => by show k ≠ r; intro e; exact hnr (e ▸ h)))
  clear r1 k1
  rw [H1.out] at r2 ⊢
  replace r2 : IsR r l false w2 := r2
  go_wp2_with fail
  refine (getW (· < w.heap.size) r _ _ 4 _ r2 hnr (k2.lt (fun _ h => h)) (by have := H4.out; omega)).mono ?_
  rintro e w3 ⟨rfl, r3, k3⟩
  replace k3 := k2.trans k3
  have hT3 := HT.out.kept k3 HT.out.lt
  clear r2 k2
  rw [show (min (max (4 : Int) 1) 8) = 4 from by decide, H2.out] at r3 ⊢
  replace r3 : IsR r [] true w3 := r3
  rw [show numLE (([], ([] : List UInt8), true) : List UInt8 × List UInt8 × Bool).1 = 0 from rfl]
  have R3 := Lib.hid r3
  have K3 := Lib.hid k3
  have T3 := Lib.hid hT3
  clear r3 k3 hT3
  go_wp2_with fail
  refine (endW r _ _ _ R3.out).mono ?_
  rintro e _ ⟨rfl, rfl⟩
  rw [show endOf [] true = 3 from by decide]
  go_wp2
  go_ret2
  exact ⟨rfl, K3.out⟩

theorem openIs_append (p q : List UInt8) (hq : q.length = 4) : openIs (p ++ q) = decide (numLE q = sumOf p) := by
  unfold openIs
  rw [List.length_append, hq, decide_eq_true (by omega), Bool.true_and, Nat.add_sub_cancel, List.take_left', List.drop_left']
  all_goals rfl
theorem openOf_append (p q : List UInt8) (hq : q.length = 4) : openOf (p ++ q) = if numLE q = sumOf p then p else [] := by
  unfold openOf
  rw [openIs_append p q hq, List.length_append, hq, Nat.add_sub_cancel, List.take_left' rfl]
  by_cases h : numLE q = sumOf p <;> simp [h]
theorem openIs_short (l : List UInt8) (h : l.length < 4) : openIs l = false := by
  unfold openIs
  rw [decide_eq_false (by omega)]
  rfl
theorem openOf_short (l : List UInt8) (h : l.length < 4) : openOf l = [] := by
  unfold openOf
  rw [openIs_short l h]
  rfl

theorem castleOpen (l : List UInt8) (w : World) (hT : Tab w) (hl : l.length ≤ 65536) :
    Calls Tryz.prog 82 #[.string ⟨l.toArray⟩] w fun e w' => e = .returned (.tuple #[.string ⟨(openOf l).toArray⟩, .bool (openIs l)]) ∧ KeptIn (· < w.heap.size) w w' := by
  by_cases h : l.length < 4
  · rw [openIs_short l h, openOf_short l h]
    exact castleOpenShort l w hT h
  · have hq : (l.drop (l.length - 4)).length = 4 := by rw [List.length_drop]; omega
    have hp : (l.take (l.length - 4)).length ≤ 65536 := by rw [List.length_take]; omega
    have hl' : l = l.take (l.length - 4) ++ l.drop (l.length - 4) := (List.take_append_drop ..).symm
    generalize l.take (l.length - 4) = p at *
    generalize l.drop (l.length - 4) = q at *
    subst hl'
    rw [openIs_append p q hq, openOf_append p q hq]
    exact castleOpenLong p q w hT hq hp

end Go.Proofs.YtkgjmejgkffbdaaGreatDoor
/- What was turned within four bytes isn't opened; what wasn't is opened as it was. -/
set_option linter.unusedVariables false
namespace Go.Proofs.YtkgjmejgkffbdaaGreatDoor
open Go.RowKit

theorem open_crc (u : List UInt8) (h : 4 ≤ u.length) : openIs u = true ↔ crc u 4294967295 = fulls 4 4294967295 := by
  have hq : (u.drop (u.length - 4)).length = 4 := by rw [List.length_drop]; omega
  have hu : u = u.take (u.length - 4) ++ u.drop (u.length - 4) := (List.take_append_drop ..).symm
  generalize u.take (u.length - 4) = p at *
  generalize u.drop (u.length - 4) = q at *
  subst hu
  rw [openIs_append p q hq, decide_eq_true_iff]
  exact opened_iff p q hq

theorem seal_opens (l : List UInt8) : openIs (sealOf l) = true := by
  unfold sealOf
  rw [openIs_append _ _ (bytesLE_length ..), decide_eq_true_iff, numLE_bytesLE]
  exact Nat.mod_eq_of_lt (sumOf_lt l)
theorem seal_opened (l : List UInt8) : openOf (sealOf l) = l := by
  unfold openOf
  rw [seal_opens, if_pos rfl]
  unfold sealOf
  rw [List.length_append, bytesLE_length, Nat.add_sub_cancel, List.take_left' rfl]

theorem told (l : List UInt8) (k m : Nat) (hk : k ≤ l.length) (hm : m < 4294967296) :
    openIs (turn (sealOf l) k m 4) = decide (m = 0) ∧ (m = 0 → openOf (turn (sealOf l) k m 4) = l) := by
  obtain ⟨p, q, q', r, h1, h2, hq, hq', hx⟩ := turn_four (sealOf l) k m (by rw [sealOf_length]; omega) hm
  have hlen : 4 ≤ (turn (sealOf l) k m 4).length := by rw [h2]; simp [hq']; omega
  have hl : 4 ≤ (sealOf l).length := by rw [sealOf_length]; omega
  have hs := (open_crc _ hl).1 (seal_opens l)
  constructor
  · rw [Bool.eq_iff_iff, open_crc _ hlen, decide_eq_true_iff, ← hs, h2, h1, window p q' q r hq' hq, hx]
    exact xor_self_iff _ _
  · intro hm0
    have he : q' = q := by
      rw [hm0, Nat.xor_zero] at hx
      have e1 := bytesLE_numLE q'
      have e2 := bytesLE_numLE q
      rw [← e1, ← e2, hx, hq, hq']
    rw [h2, he, ← h1]
    exact seal_opened l
end Go.Proofs.YtkgjmejgkffbdaaGreatDoor
/- Heads: the mathematics. Of no program. -/
set_option linter.unusedVariables false
namespace Go.Proofs.YtkgjmejgkffbdaaGreatDoor
open Go.RowKit

/-- A head. -/
structure Hd where
  gen : Nat
  root : Int
  slow : Int
  fast : Int
  chunk : Int

/-- A head that can be. -/
def Hd.can (h : Hd) : Prop := 1 ≤ h.gen ∧ h.gen ≤ 4294967295 ∧ 0 ≤ h.root ∧ h.root ≤ 511 ∧ 1 ≤ h.slow ∧ h.slow ≤ 256 ∧ 1 ≤ h.fast ∧ h.fast ≤ 256 ∧ 1 ≤ h.chunk ∧ h.chunk ≤ 8
instance (h : Hd) : Decidable h.can := by unfold Hd.can; infer_instance
def goodH (h : Hd) : Bool := decide h.can

/-- A head as a value. -/
def headV (h : Hd) : Value := .agg #[.int .u64 h.gen, .int .i64 h.root, .int .i64 h.slow, .int .i64 h.fast, .int .i64 h.chunk]
def noH : Hd := ⟨0, 0, 0, 0, 0⟩

theorem headV_inj {h k : Hd} (e : headV h = headV k) : h = k := by
  obtain ⟨g, r, s, f, c⟩ := h
  obtain ⟨g', r', s', f', c'⟩ := k
  simp [headV] at e
  obtain ⟨e1, e2, e3, e4, e5⟩ := e
  obtain rfl : g = g' := by omega
  subst e2 e3 e4 e5
  rfl

/-- What a head's sum is of. -/
def textH (h : Hd) : List UInt8 := 84 :: UInt8.ofNat h.chunk.toNat :: (bytesLE h.slow.toNat 2 ++ (bytesLE h.fast.toNat 2 ++ (bytesLE h.gen 4 ++ bytesLE h.root.toNat 2)))
def bytesH (h : Hd) : List UInt8 := sealOf (textH h)
theorem textH_length (h : Hd) : (textH h).length = 12 := by simp [textH, bytesLE_length]
theorem bytesH_length (h : Hd) : (bytesH h).length = 16 := by rw [bytesH, sealOf_length, textH_length]

/-- What twelve bytes tell. -/
def headIn (t : List UInt8) : Hd := ⟨numLE ((t.drop 6).take 4), numLE ((t.drop 10).take 2), numLE ((t.drop 2).take 2), numLE ((t.drop 4).take 2), (t.getD 1 0).toNat⟩
/-- Whether bytes are a head's. -/
def isH (s : List UInt8) : Bool := decide (s.length = 16) && (goodH (headIn s) && decide (bytesH (headIn s) = s))
/-- The head that is read. -/
def headR (s : List UInt8) : Hd := if isH s then headIn s else noH

theorem take12 (t : List UInt8) (h : 12 ≤ t.length) : ∃ a b c d e f g i j k l m r, t = a :: b :: c :: d :: e :: f :: g :: i :: j :: k :: l :: m :: r := by
  match t, h with
  | a :: b :: c :: d :: e :: f :: g :: i :: j :: k :: l :: m :: r, _ => exact ⟨_, _, _, _, _, _, _, _, _, _, _, _, _, rfl⟩

theorem byte_of (n : Nat) (h : n < 256) : (UInt8.ofNat n).toNat = n := by
  have := ofNat_byte n
  omega

theorem headIn_text (h : Hd) (hg : goodH h = true) (q : List UInt8) : headIn (textH h ++ q) = h := by
  obtain ⟨h1, h2, h3, h4, h5, h6, h7, h8, h9, h10⟩ : h.can := of_decide_eq_true hg
  obtain ⟨g, r, s, f, c⟩ := h
  simp only at h1 h2 h3 h4 h5 h6 h7 h8 h9 h10
  have e2 : ∀ n, bytesLE n 2 = [UInt8.ofNat n, UInt8.ofNat (n / 256)] := fun n => rfl
  have e4 : ∀ n, bytesLE n 4 = [UInt8.ofNat n, UInt8.ofNat (n / 256), UInt8.ofNat (n / 256 / 256), UInt8.ofNat (n / 256 / 256 / 256)] := fun n => rfl
  have n2 := fun n => numLE_bytesLE n 2
  have n4 := fun n => numLE_bytesLE n 4
  rw [show (2 : Nat) ^ (8 * 2) = 65536 from rfl] at n2
  rw [show (2 : Nat) ^ (8 * 4) = 4294967296 from rfl] at n4
  have a1 : ((textH ⟨g, r, s, f, c⟩ ++ q).drop 6).take 4 = bytesLE g 4 := by simp [textH, e2, e4]
  have a2 : ((textH ⟨g, r, s, f, c⟩ ++ q).drop 10).take 2 = bytesLE r.toNat 2 := by simp [textH, e2, e4]
  have a3 : ((textH ⟨g, r, s, f, c⟩ ++ q).drop 2).take 2 = bytesLE s.toNat 2 := by simp [textH, e2, e4]
  have a4 : ((textH ⟨g, r, s, f, c⟩ ++ q).drop 4).take 2 = bytesLE f.toNat 2 := by simp [textH, e2, e4]
  have a5 : (textH ⟨g, r, s, f, c⟩ ++ q).getD 1 0 = UInt8.ofNat c.toNat := by simp [textH]
  unfold headIn
  rw [a1, a2, a3, a4, a5, n4, n2, n2, n2, byte_of _ (by omega)]
  simp only [Hd.mk.injEq]
  refine ⟨by omega, by omega, by omega, by omega, by omega⟩

theorem text_headIn (t : List UInt8) (h : t.length = 12) (h0 : t.getD 0 0 = 84) : textH (headIn t) = t := by
  obtain ⟨a, b, c, d, e, f, g, i, j, k, l, m, r, rfl⟩ := take12 t (by omega)
  obtain rfl : r = [] := List.eq_nil_of_length_eq_zero (by simpa using h)
  obtain rfl : a = 84 := h0
  have n2 : ∀ x y : UInt8, bytesLE (numLE [x, y]) 2 = [x, y] := fun x y => bytesLE_numLE [x, y]
  have n4 : ∀ x y z u : UInt8, bytesLE (numLE [x, y, z, u]) 4 = [x, y, z, u] := fun x y z u => bytesLE_numLE [x, y, z, u]
  simp [textH, headIn, n2, n4]

theorem headIn_take (s : List UInt8) (h : 12 ≤ s.length) : headIn (s.take 12) = headIn s := by
  obtain ⟨a, b, c, d, e, f, g, i, j, k, l, m, r, rfl⟩ := take12 s h
  simp [headIn]

theorem isH_short {s : List UInt8} (h : s.length ≠ 16) : isH s = false := by rw [isH, decide_eq_false h]; rfl

/-- A sector is a head's just where its sum is right, it begins with the mark, and the head can be. -/
theorem isH_iff (s : List UInt8) (h : s.length = 16) : (openIs s && (decide (s.getD 0 0 = 84) && goodH (headIn s))) = isH s := by
  have ht : (s.take 12).length = 12 := by rw [List.length_take]; omega
  have h0 : (s.take 12).getD 0 0 = s.getD 0 0 := by
    obtain ⟨a, b, c, d, e, f, g, i, j, k, l, m, r, rfl⟩ := take12 s (by omega)
    rfl
  have hs := openIs_sealed s (by omega)
  rw [h] at hs
  rw [isH, decide_eq_true h, Bool.true_and, Bool.eq_iff_iff]
  simp only [Bool.and_eq_true, decide_eq_true_iff]
  constructor
  · rintro ⟨h1, h2, h3⟩
    refine ⟨h3, ?_⟩
    rw [bytesH, ← headIn_take s (by omega), text_headIn _ ht (by rw [h0]; exact h2)]
    exact hs.1 h1
  · rintro ⟨h3, h4⟩
    have e : s.take 12 = textH (headIn s) := by
      conv => lhs; rw [← h4, bytesH, sealOf]
      exact List.take_left' (textH_length _)
    refine ⟨hs.2 (by show sealOf (s.take 12) = s; rw [e]; exact h4), ?_, h3⟩
    rw [← h0, e]
    rfl

theorem openOf_length (s : List UInt8) (h : openIs s = true) : (openOf s).length = s.length - 4 := by
  rw [openOf, h, if_pos rfl, List.length_take]; omega
theorem openOf_16 (s : List UInt8) (h : openIs s = true) (hl : s.length = 16) : openOf s = s.take 12 := by
  rw [openOf, h, if_pos rfl, hl]

/-- What was written is read as it was. -/
theorem isH_bytes (h : Hd) (hg : goodH h = true) : isH (bytesH h) = true ∧ headIn (bytesH h) = h := by
  have e : headIn (bytesH h) = h := headIn_text h hg _
  refine ⟨?_, e⟩
  rw [isH, e, hg, decide_eq_true (bytesH_length h), decide_eq_true rfl]
  rfl
theorem headR_bytes (h : Hd) (hg : goodH h = true) : headR (bytesH h) = h := by
  rw [headR, (isH_bytes h hg).1, if_pos rfl, (isH_bytes h hg).2]

theorem isH_open {s : List UInt8} (h : isH s = true) : openIs s = true := by
  have hl : s.length = 16 := by
    simp only [isH, Bool.and_eq_true, decide_eq_true_iff] at h
    exact h.1
  rw [← isH_iff s hl] at h
  simp only [Bool.and_eq_true] at h
  exact h.1

theorem turn_length (t : List UInt8) (k m : Nat) (h : k + 4 ≤ t.length) (hm : m < 4294967296) : (turn t k m 4).length = t.length := by
  obtain ⟨p, q, q', r, e1, e2, e3, e4, _⟩ := turn_four t k m h hm
  rw [e2]
  conv => rhs; rw [e1]
  simp [e3, e4]

/-- What was turned within four bytes is no head, unless it was turned by nothing. -/
theorem isH_turn (h : Hd) (hg : goodH h = true) (k m : Nat) (hk : k ≤ 12) (hm : m < 4294967296) (h0 : m ≠ 0) : isH (turn (bytesH h) k m 4) = false := by
  obtain ⟨h1, _⟩ := told (textH h) k m (by rw [textH_length]; exact hk) hm
  rw [decide_eq_false h0] at h1
  rw [Bool.eq_false_iff]
  intro hi
  have := isH_open hi
  rw [bytesH, h1] at this
  cases this

end Go.Proofs.YtkgjmejgkffbdaaGreatDoor
/- Package head's Good, and the reference's. -/
set_option linter.unusedVariables false
namespace Go.Proofs.YtkgjmejgkffbdaaGreatDoor
open Go.RowKit

/-- A head, boxed. -/
def BoxH (x : Nat) (h : Hd) (W : World) : Prop := W.heap[x]? = some (.cells #[.int .u64 h.gen, .int .i64 h.root, .int .i64 h.slow, .int .i64 h.fast, .int .i64 h.chunk] 39 (0, 0))
section
variable {x : Nat} {h : Hd} {W W' : World}
theorem BoxH.c0 (k : BoxH x h W) : W.cell? ⟨x, 0, none⟩ = some (.int .u64 h.gen) := by simp [World.cell?, show W.heap[x]? = _ from k]
theorem BoxH.c1 (k : BoxH x h W) : W.cell? ⟨x, 1, none⟩ = some (.int .i64 h.root) := by simp [World.cell?, show W.heap[x]? = _ from k]
theorem BoxH.c2 (k : BoxH x h W) : W.cell? ⟨x, 2, none⟩ = some (.int .i64 h.slow) := by simp [World.cell?, show W.heap[x]? = _ from k]
theorem BoxH.c3 (k : BoxH x h W) : W.cell? ⟨x, 3, none⟩ = some (.int .i64 h.fast) := by simp [World.cell?, show W.heap[x]? = _ from k]
theorem BoxH.c4 (k : BoxH x h W) : W.cell? ⟨x, 4, none⟩ = some (.int .i64 h.chunk) := by simp [World.cell?, show W.heap[x]? = _ from k]
theorem BoxH.fz (k : BoxH x h W) (i : Nat) : W.frozen? ⟨x, i, none⟩ = false := by simp [World.frozen?, show W.heap[x]? = _ from k]
theorem BoxH.lt (k : BoxH x h W) : x < W.heap.size := (Array.getElem?_eq_some_iff.1 k).1
theorem BoxH.kept {X : Nat → Prop} (h1 : BoxH x h W) (hk : KeptIn X W W') (hX : X x) : BoxH x h W' := (hk.block x hX).trans h1
theorem BoxH.new (w : World) (h : Hd) : BoxH w.heap.size h (w.alloc (.cells #[.int .u64 h.gen, .int .i64 h.root, .int .i64 h.slow, .int .i64 h.fast, .int .i64 h.chunk] 39)) := heap_alloc_new w _
end

theorem hdWithin (n lo hi : Int) (b : Bool) (hb : decide (lo ≤ n ∧ n ≤ hi) = b) (w : World) :
    Calls Tryz.prog 91 #[.int .i64 n, .int .i64 lo, .int .i64 hi] w fun e w' => e = .returned (.bool b) ∧ w = w' := by
  have HB := Lib.hid hb
  clear hb
  by_cases h1 : lo ≤ n
  · by_cases h2 : n ≤ hi
    · obtain rfl : b = true := by rw [← HB.out]; exact decide_eq_true ⟨h1, h2⟩
      go_enter Tryz.func91, Tryz.ntmps91
      go_wp2
      go_ret
      exact ⟨rfl, rfl⟩
    · obtain rfl : b = false := by rw [← HB.out]; exact decide_eq_false fun h => h2 h.2
      go_enter Tryz.func91, Tryz.ntmps91
      go_wp2
      go_ret
      exact ⟨rfl, rfl⟩
  · obtain rfl : b = false := by rw [← HB.out]; exact decide_eq_false fun h => h1 h.1
    go_enter Tryz.func91, Tryz.ntmps91
    go_wp2
    go_ret
    exact ⟨rfl, rfl⟩

set_option maxHeartbeats 1000000 in
theorem hdGood (h : Hd) (w : World) : Calls Tryz.prog 63 #[headV h] w fun e w' => e = .returned (.bool (goodH h)) ∧ KeptIn (· < w.heap.size) w w' := by
  obtain ⟨o, ho⟩ : ∃ o, goodH h = o := ⟨_, rfl⟩
  rw [ho]
  obtain ⟨g, r, s, f, c⟩ := h
  unfold goodH Hd.can at ho
  unfold headV
  simp only at ho ⊢
  have HO := Lib.hid ho
  clear ho
  have W1 := Lib.hid fun b hb V => hdWithin r 0 511 b hb V
  have W2 := Lib.hid fun b hb V => hdWithin s 1 256 b hb V
  have W3 := Lib.hid fun b hb V => hdWithin f 1 256 b hb V
  have W4 := Lib.hid fun b hb V => hdWithin c 1 8 b hb V
  by_cases h1 : (1 : Int) ≤ (g : Int)
  · by_cases h2 : (g : Int) ≤ 4294967295
    · have HG := Lib.hid (show 1 ≤ g ∧ g ≤ 4294967295 by omega)
      by_cases h3 : 0 ≤ r ∧ r ≤ 511
      · have B1 := Lib.hid (W1.out true (decide_eq_true h3))
        have H3 := Lib.hid h3
        clear W1 h3
        by_cases h4 : 1 ≤ s ∧ s ≤ 256
        · have B2 := Lib.hid (W2.out true (decide_eq_true h4))
          have H4 := Lib.hid h4
          clear W2 h4
          by_cases h5 : 1 ≤ f ∧ f ≤ 256
          · have B3 := Lib.hid (W3.out true (decide_eq_true h5))
            have H5 := Lib.hid h5
            clear W3 h5
            by_cases h6 : 1 ≤ c ∧ c ≤ 8
            · obtain rfl : o = true := by rw [← HO.out]; exact decide_eq_true ⟨HG.out.1, HG.out.2, H3.out.1, H3.out.2, H4.out.1, H4.out.2, H5.out.1, H5.out.2, h6⟩
              have B4 := Lib.hid (W4.out true (decide_eq_true h6))
              clear W4 h6 HO HG H3 H4 H5
              go_enter Tryz.func63, Tryz.ntmps63
              go_wp2_with fail
              refine (B1.out _).mono ?_
              rintro e _ ⟨rfl, rfl⟩
              go_wp2_with fail
              refine (B2.out _).mono ?_
              rintro e _ ⟨rfl, rfl⟩
              go_wp2_with fail
              refine (B3.out _).mono ?_
              rintro e _ ⟨rfl, rfl⟩
              go_wp2_with fail
              refine (B4.out _).mono ?_
              rintro e _ ⟨rfl, rfl⟩
              go_wp2_with fail
              go_ret
              exact ⟨rfl, (KeptIn.refl _ _).alloc (fun _ h => h) _⟩
            · obtain rfl : o = false := by rw [← HO.out]; exact decide_eq_false fun h => h6 h.2.2.2.2.2.2.2.2
              have B4 := Lib.hid (W4.out false (decide_eq_false h6))
              clear W4 h6 HO HG H3 H4 H5
              go_enter Tryz.func63, Tryz.ntmps63
              go_wp2_with fail
              refine (B1.out _).mono ?_
              rintro e _ ⟨rfl, rfl⟩
              go_wp2_with fail
              refine (B2.out _).mono ?_
              rintro e _ ⟨rfl, rfl⟩
              go_wp2_with fail
              refine (B3.out _).mono ?_
              rintro e _ ⟨rfl, rfl⟩
              go_wp2_with fail
              refine (B4.out _).mono ?_
              rintro e _ ⟨rfl, rfl⟩
              go_wp2_with fail
              go_ret
              exact ⟨rfl, (KeptIn.refl _ _).alloc (fun _ h => h) _⟩
          · obtain rfl : o = false := by rw [← HO.out]; exact decide_eq_false fun h => h5 ⟨h.2.2.2.2.2.2.1, h.2.2.2.2.2.2.2.1⟩
            have B3 := Lib.hid (W3.out false (decide_eq_false h5))
            clear W3 h5 HO HG H3 H4
            go_enter Tryz.func63, Tryz.ntmps63
            go_wp2_with fail
            refine (B1.out _).mono ?_
            rintro e _ ⟨rfl, rfl⟩
            go_wp2_with fail
            refine (B2.out _).mono ?_
            rintro e _ ⟨rfl, rfl⟩
            go_wp2_with fail
            refine (B3.out _).mono ?_
            rintro e _ ⟨rfl, rfl⟩
            go_wp2_with fail
            go_ret
            exact ⟨rfl, (KeptIn.refl _ _).alloc (fun _ h => h) _⟩
        · obtain rfl : o = false := by rw [← HO.out]; exact decide_eq_false fun h => h4 ⟨h.2.2.2.2.1, h.2.2.2.2.2.1⟩
          have B2 := Lib.hid (W2.out false (decide_eq_false h4))
          clear W2 h4 HO HG H3
          go_enter Tryz.func63, Tryz.ntmps63
          go_wp2_with fail
          refine (B1.out _).mono ?_
          rintro e _ ⟨rfl, rfl⟩
          go_wp2_with fail
          refine (B2.out _).mono ?_
          rintro e _ ⟨rfl, rfl⟩
          go_wp2_with fail
          go_ret
          exact ⟨rfl, (KeptIn.refl _ _).alloc (fun _ h => h) _⟩
      · obtain rfl : o = false := by rw [← HO.out]; exact decide_eq_false fun h => h3 ⟨h.2.2.1, h.2.2.2.1⟩
        have B1 := Lib.hid (W1.out false (decide_eq_false h3))
        clear W1 h3 HO HG
        go_enter Tryz.func63, Tryz.ntmps63
        go_wp2_with fail
        refine (B1.out _).mono ?_
        rintro e _ ⟨rfl, rfl⟩
        go_wp2_with fail
        go_ret
        exact ⟨rfl, (KeptIn.refl _ _).alloc (fun _ h => h) _⟩
    · obtain rfl : o = false := by rw [← HO.out]; exact decide_eq_false fun h => h2 (by omega)
      clear HO
      go_enter Tryz.func63, Tryz.ntmps63
      go_wp2_with fail
      go_ret
      exact ⟨rfl, (KeptIn.refl _ _).alloc (fun _ h => h) _⟩
  · obtain rfl : o = false := by rw [← HO.out]; exact decide_eq_false fun h => h1 (by omega)
    clear HO
    go_enter Tryz.func63, Tryz.ntmps63
    go_wp2_with fail
    go_ret
    exact ⟨rfl, (KeptIn.refl _ _).alloc (fun _ h => h) _⟩

end Go.Proofs.YtkgjmejgkffbdaaGreatDoor
/- Heads in variables: stores, results; readers of a text. -/
set_option linter.unusedVariables false
namespace Go.Proofs.YtkgjmejgkffbdaaGreatDoor
open Go.RowKit

section
variable {x : Nat} {h : Hd} {W : World}
theorem BoxH.set0 (k : BoxH x h W) (v : Nat) : BoxH x ⟨v, h.root, h.slow, h.fast, h.chunk⟩ (W.setCell ⟨x, 0, none⟩ (.int .u64 v)) := (heap_setCell_same _ _ _ _ _ _ k).trans rfl
theorem BoxH.set1 (k : BoxH x h W) (v : Int) : BoxH x ⟨h.gen, v, h.slow, h.fast, h.chunk⟩ (W.setCell ⟨x, 1, none⟩ (.int .i64 v)) := (heap_setCell_same _ _ _ _ _ _ k).trans rfl
theorem BoxH.set2 (k : BoxH x h W) (v : Int) : BoxH x ⟨h.gen, h.root, v, h.fast, h.chunk⟩ (W.setCell ⟨x, 2, none⟩ (.int .i64 v)) := (heap_setCell_same _ _ _ _ _ _ k).trans rfl
theorem BoxH.set3 (k : BoxH x h W) (v : Int) : BoxH x ⟨h.gen, h.root, h.slow, v, h.chunk⟩ (W.setCell ⟨x, 3, none⟩ (.int .i64 v)) := (heap_setCell_same _ _ _ _ _ _ k).trans rfl
theorem BoxH.set4 (k : BoxH x h W) (v : Int) : BoxH x ⟨h.gen, h.root, h.slow, h.fast, v⟩ (W.setCell ⟨x, 4, none⟩ (.int .i64 v)) := (heap_setCell_same _ _ _ _ _ _ k).trans rfl
/-- A head stored whole. -/
theorem BoxH.put (k : BoxH x h W) (h' : Hd) : BoxH x h' (((((W.setCell ⟨x, 0, none⟩ (.int .u64 h'.gen)).setCell ⟨x, 1, none⟩ (.int .i64 h'.root)).setCell ⟨x, 2, none⟩ (.int .i64 h'.slow)).setCell ⟨x, 3, none⟩ (.int .i64 h'.fast)).setCell ⟨x, 4, none⟩ (.int .i64 h'.chunk)) :=
  ((((k.set0 h'.gen).set1 h'.root).set2 h'.slow).set3 h'.fast).set4 h'.chunk
theorem KeptIn.put {X : Nat → Prop} {w : World} (k : KeptIn X w W) (hx : ¬ X x) (h' : Hd) : KeptIn X w (((((W.setCell ⟨x, 0, none⟩ (.int .u64 h'.gen)).setCell ⟨x, 1, none⟩ (.int .i64 h'.root)).setCell ⟨x, 2, none⟩ (.int .i64 h'.slow)).setCell ⟨x, 3, none⟩ (.int .i64 h'.fast)).setCell ⟨x, 4, none⟩ (.int .i64 h'.chunk)) :=
  ((((k.setCell (p := ⟨x, 0, none⟩) hx _).setCell (p := ⟨x, 1, none⟩) hx _).setCell (p := ⟨x, 2, none⟩) hx _).setCell (p := ⟨x, 3, none⟩) hx _).setCell (p := ⟨x, 4, none⟩) hx _
/-- No head stored. -/
theorem BoxH.put0 (k : BoxH x h W) : BoxH x noH (((((W.setCell ⟨x, 0, none⟩ (.int .u64 0)).setCell ⟨x, 1, none⟩ (.int .i64 0)).setCell ⟨x, 2, none⟩ (.int .i64 0)).setCell ⟨x, 3, none⟩ (.int .i64 0)).setCell ⟨x, 4, none⟩ (.int .i64 0)) := k.put noH
theorem KeptIn.put0 {X : Nat → Prop} {w : World} (k : KeptIn X w W) (hx : ¬ X x) : KeptIn X w (((((W.setCell ⟨x, 0, none⟩ (.int .u64 0)).setCell ⟨x, 1, none⟩ (.int .i64 0)).setCell ⟨x, 2, none⟩ (.int .i64 0)).setCell ⟨x, 3, none⟩ (.int .i64 0)).setCell ⟨x, 4, none⟩ (.int .i64 0)) := k.put hx noH
/-- The cells of a variable that holds no head yet, and that each may be written. -/
theorem BoxH.zero (k : BoxH x noH W) : (W.cell? ⟨x, 0, none⟩ = some (.int .u64 0) ∧ W.cell? ⟨x, 1, none⟩ = some (.int .i64 0) ∧ W.cell? ⟨x, 2, none⟩ = some (.int .i64 0) ∧ W.cell? ⟨x, 3, none⟩ = some (.int .i64 0) ∧ W.cell? ⟨x, 4, none⟩ = some (.int .i64 0)) ∧
    (W.frozen? ⟨x, 0, none⟩ = false ∧ W.frozen? ⟨x, 1, none⟩ = false ∧ W.frozen? ⟨x, 2, none⟩ = false ∧ W.frozen? ⟨x, 3, none⟩ = false ∧ W.frozen? ⟨x, 4, none⟩ = false) :=
  ⟨⟨k.c0, k.c1, k.c2, k.c3, k.c4⟩, k.fz 0, k.fz 1, k.fz 2, k.fz 3, k.fz 4⟩

/-- What a function hands back whose first result is a head's variable. -/
theorem results_head {fn : Func} {p u : Tmp} (e : fn.results = #[.cell p 39, .tmp u]) (tmps : Array Value) (w : World) (x : Nat) (h : Hd)
    (hp : tmps.getD p undef = .pointer (some ⟨x, 0, none⟩)) (hb : BoxH x h w) : (results fn tmps).run Tryz.prog w = .ok (.tuple #[headV h, tmps.getD u undef]) w := by
  have hr := run_loadVar_row (P := Tryz.prog) w x 39 39 _ _ _ hb Tryz.underlying39 rfl (by kernel_rfl)
  rw [results_cell_tmp e, hp]
  simp [asAddr, hr, headV]
theorem results_head3 {fn : Func} {p u v : Tmp} (e : fn.results = #[.cell p 39, .tmp u, .tmp v]) (tmps : Array Value) (w : World) (x : Nat) (h : Hd)
    (hp : tmps.getD p undef = .pointer (some ⟨x, 0, none⟩)) (hb : BoxH x h w) : (results fn tmps).run Tryz.prog w = .ok (.tuple #[headV h, tmps.getD u undef, tmps.getD v undef]) w := by
  have hr := run_loadVar_row (P := Tryz.prog) w x 39 39 _ _ _ hb Tryz.underlying39 rfl (by kernel_rfl)
  have hp' : tmps[p]?.getD undef = .pointer (some ⟨x, 0, none⟩) := by simpa using hp
  simp [results, e, hp', asAddr, hr, headV]
end

end Go.Proofs.YtkgjmejgkffbdaaGreatDoor
/- Package head's parse. -/
set_option linter.unusedVariables false
namespace Go.Proofs.YtkgjmejgkffbdaaGreatDoor
open Go.RowKit

/-! ### What a reader's calls leave -/
theorem step_left (k : Int) (l : List UInt8) (sh : Bool) (h1 : 1 ≤ k) {q l' : List UInt8} {sh' : Bool} (e : takeR k l sh = (q, l', sh')) :
    (sh' = true ∨ sh' = sh ∧ l'.length + k.toNat = l.length) ∧ q.length ≤ k.toNat ∧ l'.length ≤ l.length ∧ (sh = true → sh' = true) := by
  unfold takeR at e
  rw [if_neg (by omega)] at e
  split at e
  · simp only [Prod.mk.injEq] at e
    obtain ⟨rfl, rfl, rfl⟩ := e
    exact ⟨.inl rfl, Nat.zero_le _, Nat.zero_le _, fun _ => rfl⟩
  · simp only [Prod.mk.injEq] at e
    obtain ⟨rfl, rfl, rfl⟩ := e
    refine ⟨.inr ⟨rfl, ?_⟩, ?_, ?_, id⟩ <;> simp <;> omega

theorem step_take (k : Nat) (l : List UInt8) (h1 : 1 ≤ k) (h : k ≤ l.length) : takeR (k : Int) l false = (l.take k, l.drop k, false) := by
  unfold takeR
  rw [if_neg (by omega), if_neg (by omega), Int.toNat_natCast]

/-- Whether a text tells a head, whether one can have that or not. -/
def parseH (t : List UInt8) : Bool := decide (t.length = 12) && decide (t.getD 0 0 = 84)

theorem chain (t : List UInt8) {q0 q1 q2 q3 q4 q5 l1 l2 l3 l4 l5 l6 : List UInt8} {s1 s2 s3 s4 s5 s6 : Bool} (e0 : takeR 1 t false = (q0, l1, s1)) (e1 : takeR 1 l1 s1 = (q1, l2, s2)) (e2 : takeR 2 l2 s2 = (q2, l3, s3))
    (e3 : takeR 2 l3 s3 = (q3, l4, s4)) (e4 : takeR 4 l4 s4 = (q4, l5, s5)) (e5 : takeR 2 l5 s5 = (q5, l6, s6)) :
    (endOf l6 s6 = if t.length = 12 then 0 else 3) ∧ (t.length = 12 → numLE q0 = (t.getD 0 0).toNat ∧ (⟨numLE q4, numLE q5, numLE q2, numLE q3, numLE q1⟩ : Hd) = headIn t) := by
  rcases Nat.lt_or_ge t.length 12 with h | h
  · have a0 := step_left 1 t false (by decide) e0
    have a1 := step_left 1 l1 s1 (by decide) e1
    have a2 := step_left 2 l2 s2 (by decide) e2
    have a3 := step_left 2 l3 s3 (by decide) e3
    have a4 := step_left 4 l4 s4 (by decide) e4
    have a5 := step_left 2 l5 s5 (by decide) e5
    have hs : s6 = true := by
      have b0 := a0.1; have b1 := a1.1; have b2 := a2.1; have b3 := a3.1; have b4 := a4.1; have b5 := a5.1
      have c1 := a1.2.2.2; have c2 := a2.2.2.2; have c3 := a3.2.2.2; have c4 := a4.2.2.2; have c5 := a5.2.2.2
      have n1 : (1 : Int).toNat = 1 := rfl
      have n2 : (2 : Int).toNat = 2 := rfl
      have n4 : (4 : Int).toNat = 4 := rfl
      rw [n1] at b0 b1; rw [n2] at b2 b3 b5; rw [n4] at b4
      cases s6 with
      | true => rfl
      | false =>
        exfalso
        cases s5 with
        | true => exact absurd (c5 rfl) (by decide)
        | false => cases s4 with
          | true => exact absurd (c4 rfl) (by decide)
          | false => cases s3 with
            | true => exact absurd (c3 rfl) (by decide)
            | false => cases s2 with
              | true => exact absurd (c2 rfl) (by decide)
              | false => cases s1 with
                | true => exact absurd (c1 rfl) (by decide)
                | false => simp at b0 b1 b2 b3 b4 b5; omega
    subst hs
    rw [if_neg (by omega)]
    exact ⟨rfl, fun h12 => absurd h12 (by omega)⟩
  · obtain ⟨a, b, c, d, e, f, g, i, j, k, l, m, r, rfl⟩ := take12 t h
    have t1 : ∀ (x : UInt8) (y : List UInt8), takeR 1 (x :: y) false = ([x], y, false) := fun x y => step_take 1 (x :: y) (by decide) (by simp)
    have t2 : ∀ (x x' : UInt8) (y : List UInt8), takeR 2 (x :: x' :: y) false = ([x, x'], y, false) := fun x x' y => step_take 2 (x :: x' :: y) (by decide) (by simp)
    have t4 : ∀ (x x' u u' : UInt8) (y : List UInt8), takeR 4 (x :: x' :: u :: u' :: y) false = ([x, x', u, u'], y, false) := fun x x' u u' y => step_take 4 (x :: x' :: u :: u' :: y) (by decide) (by simp)
    rw [t1] at e0
    simp only [Prod.mk.injEq] at e0
    obtain ⟨rfl, rfl, rfl⟩ := e0
    rw [t1] at e1
    simp only [Prod.mk.injEq] at e1
    obtain ⟨rfl, rfl, rfl⟩ := e1
    rw [t2] at e2
    simp only [Prod.mk.injEq] at e2
    obtain ⟨rfl, rfl, rfl⟩ := e2
    rw [t2] at e3
    simp only [Prod.mk.injEq] at e3
    obtain ⟨rfl, rfl, rfl⟩ := e3
    rw [t4] at e4
    simp only [Prod.mk.injEq] at e4
    obtain ⟨rfl, rfl, rfl⟩ := e4
    rw [t2] at e5
    simp only [Prod.mk.injEq] at e5
    obtain ⟨rfl, rfl, rfl⟩ := e5
    constructor
    · cases r with
      | nil => rfl
      | cons x r =>
        rw [if_neg (by simp)]
        rfl
    · intro _
      exact ⟨by simp [numLE], by simp [headIn, numLE]⟩

/-- What parse hands back. -/
def ParseH (B : Nat) (w : World) (t : List UInt8) (ok : Bool) (e : Ending) (w' : World) : Prop :=
  ∃ h, e = .returned (.tuple #[headV h, .bool ok]) ∧ KeptIn (· < B) w w' ∧ (ok = true → h = headIn t)

/-- One reading. -/
theorem rget (r : Nat) (size k : Int) (hk : min (max size 1) 8 = k) {l q l' : List UInt8} {sh sh' : Bool} (e : takeR k l sh = (q, l', sh')) (hl : l.length ≤ 65536) (w : World) (h : IsR r l sh w) :
    Calls Tryz.prog 110 #[.pointer (some ⟨r, 0, none⟩), .int .i64 size] w fun en w' => en = .returned (.int .u64 (numLE q)) ∧ IsR r l' sh' w' ∧ KeptIn (fun k => k < w.heap.size ∧ k ≠ r) w w' := by
  have := getW (fun k => k < w.heap.size ∧ k ≠ r) r l sh size w h (fun h => h.2 rfl) (fun k h => h.1) (by omega)
  rw [hk, e] at this
  exact this

theorem num_le (q : List UInt8) (k : Nat) (h : q.length ≤ k) : numLE q < 2 ^ (8 * k) := Nat.lt_of_lt_of_le (numLE_lt q) (Nat.pow_le_pow_right (by decide) (by omega))

/-- parse's variables: the result's at B, the head's at x, the reader at r. -/
structure P6 (w : World) (B x r : Nat) (h : Hd) (l : List UInt8) (sh : Bool) (W : World) : Prop where
  rd : IsR r l sh W
  res : BoxH B noH W
  box : BoxH x h W
  kept : KeptIn (· < B) w W
  bx : B < x
  xr : x < r
section
variable {w W V : World} {B x r : Nat} {h : Hd} {l l' : List UInt8} {sh sh' : Bool}
theorem P6.get (p : P6 w B x r h l sh W) (hr : IsR r l' sh' V) (hk : KeptIn (fun k => k < W.heap.size ∧ k ≠ r) W V) : P6 w B x r h l' sh' V :=
  ⟨hr, p.res.kept hk ⟨p.res.lt, by have := p.bx; have := p.xr; omega⟩, p.box.kept hk ⟨p.box.lt, by have := p.xr; omega⟩,
    p.kept.trans (hk.mono fun k hk => ⟨Nat.lt_trans hk p.res.lt, by have := p.bx; have := p.xr; omega⟩), p.bx, p.xr⟩
theorem P6.store (p : P6 w B x r h l sh W) (i : Nat) (v : Value) {h' : Hd} (hb : BoxH x h' (W.setCell ⟨x, i, none⟩ v)) : P6 w B x r h' l sh (W.setCell ⟨x, i, none⟩ v) :=
  ⟨(heap_setCell_other _ _ _ _ (by have := p.xr; simp; omega)).trans p.rd, (heap_setCell_other _ _ _ _ (by have := p.bx; simp; omega)).trans p.res, hb,
    p.kept.setCell (p := ⟨x, i, none⟩) (by have := p.bx; simp; omega) v, p.bx, p.xr⟩
end

set_option maxHeartbeats 2000000 in
set_option maxRecDepth 100000 in
theorem hdParse (t : List UInt8) (w : World) (ht : t.length ≤ 65536) :
    Calls Tryz.prog 113 #[.string ⟨t.toArray⟩] w (ParseH w.heap.size w t (parseH t)) := by
  obtain ⟨⟨q0, l1, s1⟩, e0⟩ : ∃ q, takeR 1 t false = q := ⟨_, rfl⟩
  obtain ⟨⟨q1, l2, s2⟩, e1⟩ : ∃ q, takeR 1 l1 s1 = q := ⟨_, rfl⟩
  obtain ⟨⟨q2, l3, s3⟩, e2⟩ : ∃ q, takeR 2 l2 s2 = q := ⟨_, rfl⟩
  obtain ⟨⟨q3, l4, s4⟩, e3⟩ : ∃ q, takeR 2 l3 s3 = q := ⟨_, rfl⟩
  obtain ⟨⟨q4, l5, s5⟩, e4⟩ : ∃ q, takeR 4 l4 s4 = q := ⟨_, rfl⟩
  obtain ⟨⟨q5, l6, s6⟩, e5⟩ : ∃ q, takeR 2 l5 s5 = q := ⟨_, rfl⟩
  obtain ⟨_, b0, m1, _⟩ := step_left 1 t false (by decide) e0
  obtain ⟨_, b1, m2, _⟩ := step_left 1 l1 s1 (by decide) e1
  obtain ⟨_, b2, m3, _⟩ := step_left 2 l2 s2 (by decide) e2
  obtain ⟨_, b3, m4, _⟩ := step_left 2 l3 s3 (by decide) e3
  obtain ⟨_, b4, m5, _⟩ := step_left 4 l4 s4 (by decide) e4
  obtain ⟨_, b5, m6, _⟩ := step_left 2 l5 s5 (by decide) e5
  have hch := chain t e0 e1 e2 e3 e4 e5
  have C0 := fun r W h => rget r 1 1 (by decide) e0 ht W h
  have C1 := fun r W h => rget r 1 1 (by decide) e1 (by omega) W h
  have C2 := fun r W h => rget r 2 2 (by decide) e2 (by omega) W h
  have C3 := fun r W h => rget r 2 2 (by decide) e3 (by omega) W h
  have C4 := fun r W h => rget r 4 4 (by decide) e4 (by omega) W h
  have C5 := fun r W h => rget r 2 2 (by decide) e5 (by omega) W h
  have u0 := num_le q0 1 b0
  have u1 := num_le q1 1 b1
  have u2 := num_le q2 2 b2
  have u3 := num_le q3 2 b3
  have u4 := num_le q4 4 b4
  have u5 := num_le q5 2 b5
  simp only [Nat.reduceMul, Nat.reducePow] at u0 u1 u2 u3 u4 u5
  obtain ⟨v0, hv0⟩ : ∃ v, numLE q0 = v := ⟨_, rfl⟩
  obtain ⟨v1, hv1⟩ : ∃ v, numLE q1 = v := ⟨_, rfl⟩
  obtain ⟨v2, hv2⟩ : ∃ v, numLE q2 = v := ⟨_, rfl⟩
  obtain ⟨v3, hv3⟩ : ∃ v, numLE q3 = v := ⟨_, rfl⟩
  obtain ⟨v4, hv4⟩ : ∃ v, numLE q4 = v := ⟨_, rfl⟩
  obtain ⟨v5, hv5⟩ : ∃ v, numLE q5 = v := ⟨_, rfl⟩
  simp only [hv0, hv1, hv2, hv3, hv4, hv5] at C0 C1 C2 C3 C4 C5 u0 u1 u2 u3 u4 u5 hch
  clear e0 e1 e2 e3 e4 e5 m1 m2 m3 m4 m5 m6 b0 b1 b2 b3 b4 b5 hv0 hv1 hv2 hv3 hv4 hv5
  -- what comes out
  obtain ⟨ok, hok⟩ : ∃ ok, parseH t = ok := ⟨_, rfl⟩
  obtain ⟨en, hen⟩ : ∃ en, endOf l6 s6 = en := ⟨_, rfl⟩
  rw [hen] at hch
  rw [hok]
  have HOK : Hid ((v0 = 84 ∧ en = 0 → ok = true) ∧ (¬ (v0 = 84 ∧ en = 0) → ok = false) ∧ (ok = true → (⟨v4, v5, v2, v3, v1⟩ : Hd) = headIn t)) := Lib.hid (by
    unfold parseH at hok
    have hb : ∀ b : UInt8, b.toNat = 84 ↔ b = 84 := fun b => ⟨fun h => UInt8.toNat_inj.1 h, fun h => by rw [h]; rfl⟩
    by_cases h12 : t.length = 12
    · have h1 := hch.1
      rw [if_pos h12] at h1
      obtain ⟨h2, h3⟩ := hch.2 h12
      rw [decide_eq_true h12, Bool.true_and] at hok
      refine ⟨fun h => ?_, fun h => ?_, fun _ => h3⟩
      · rw [← hok]; exact decide_eq_true ((hb _).1 (h2.symm.trans h.1))
      · rw [← hok]; exact decide_eq_false fun h4 => h ⟨h2.trans ((hb _).2 h4), h1⟩
    · have h1 := hch.1
      rw [if_neg h12] at h1
      rw [decide_eq_false h12, Bool.false_and] at hok
      refine ⟨fun h => absurd h.2 (by omega), fun _ => hok.symm, fun h => by rw [← hok] at h; cases h⟩)
  have hen3 : en = 0 ∨ en = 3 := by
    have := hch.1
    by_cases h : t.length = 12
    · rw [if_pos h] at this; exact .inl this
    · rw [if_neg h] at this; exact .inr this
  have HEN := Lib.hid hen
  have HE3 := Lib.hid hen3
  have H0 := Lib.hid C0; have H1 := Lib.hid C1; have H2 := Lib.hid C2; have H3 := Lib.hid C3; have H4 := Lib.hid C4; have H5 := Lib.hid C5
  have i0 : (v0 : Int) ≤ 255 := by omega
  have i1 : (v1 : Int) ≤ 255 := by omega
  have i2 : (v2 : Int) ≤ 65535 := by omega
  have i3 : (v3 : Int) ≤ 65535 := by omega
  have i5 : (v5 : Int) ≤ 65535 := by omega
  have j1 : (0 : Int) ≤ (v1 : Int) := by omega
  have j2 : (0 : Int) ≤ (v2 : Int) := by omega
  have j3 : (0 : Int) ≤ (v3 : Int) := by omega
  have j5 : (0 : Int) ≤ (v5 : Int) := by omega
  clear C0 C1 C2 C3 C4 C5 u0 u1 u2 u3 u4 u5 hch hok hen hen3
  -- the world behind the variables
  obtain ⟨B, hB⟩ : ∃ B, w.heap.size = B := ⟨_, rfl⟩
  obtain ⟨W0, hW0⟩ : ∃ W0, (w.alloc (.cells #[.int .u64 0, .int .i64 0, .int .i64 0, .int .i64 0, .int .i64 0] 39)).alloc (.cells #[.int .u64 0, .int .i64 0, .int .i64 0, .int .i64 0, .int .i64 0] 39) = W0 := ⟨_, rfl⟩
  have hres : BoxH B noH W0 := by
    rw [← hW0]
    rw [← hB]
    exact (Lib.alloc_old (w.alloc (.cells #[.int .u64 0, .int .i64 0, .int .i64 0, .int .i64 0, .int .i64 0] 39)) _ w.heap.size (by simp)).trans (heap_alloc_new w _)
  have hbox : BoxH (B + 1) noH W0 := by
    rw [← hW0, ← hB]
    have := heap_alloc_new (w.alloc (.cells #[.int .u64 0, .int .i64 0, .int .i64 0, .int .i64 0, .int .i64 0] 39)) (.cells #[.int .u64 0, .int .i64 0, .int .i64 0, .int .i64 0, .int .i64 0] 39)
    rw [World.size_alloc] at this
    exact this
  have hk0 : KeptIn (· < B) w W0 := by
    rw [← hW0, ← hB]
    exact ((KeptIn.refl _ w).alloc (fun _ h => h) _).alloc (fun _ h => h) _
  have hsz : W0.heap.size = B + 2 := by rw [← hW0, ← hB]; simp
  have HW0 := Lib.hid hW0
  have HA := Lib.hid (And.intro hres (And.intro hbox (And.intro hk0 hsz)))
  have HB := Lib.hid hB
  rw [hB]
  clear hres hbox hk0 hsz hW0 hB ht
  go_enter Tryz.func113, Tryz.ntmps113
  go_wp2_with (go_at_call 108; rw [HW0.out]; refine (ofW _ W0).mono ?_; rw [HA.out.2.2.2]; rintro e W1 ⟨rfl, hr1, hk1⟩)
  have P1 : Hid (P6 w B (B + 1) (B + 2) noH t false W1) := Lib.hid ⟨hr1, HA.out.1.kept hk1 (by omega), HA.out.2.1.kept hk1 (by omega), HA.out.2.2.1.trans (hk1.mono fun k hk => by omega), by omega, by omega⟩
  clear hr1 hk1 HA HW0
  rw [HB.out]
  refine (H0.out (B + 2) W1 P1.out.rd).mono ?_
  rintro e V2 ⟨rfl, hr, hk⟩
  have P2 := Lib.hid (P1.out.get hr hk)
  clear hr hk P1
  go_wp2_with fail
  refine (H1.out (B + 2) V2 P2.out.rd).mono ?_
  rintro e V3 ⟨rfl, hr, hk⟩
  have p3 := P2.out.get hr hk
  have cc : V3.cell? ⟨B + 1, 4, none⟩ = some (.int .i64 0) := p3.box.c4
  have ff := p3.box.fz 4
  have p4 := p3.store 4 _ (p3.box.set4 v1)
  obtain ⟨V3', hV⟩ : ∃ V, V3.setCell ⟨B + 1, 4, none⟩ (.int .i64 v1) = V := ⟨_, rfl⟩
  rw [hV] at p4
  have HV := Lib.hid hV
  have P3 := Lib.hid p4
  clear hr hk p3 p4 hV P2
  go_wp2_with fail
  rw [HV.out]
  clear cc ff HV
  refine (H2.out (B + 2) V3' P3.out.rd).mono ?_
  rintro e V4 ⟨rfl, hr, hk⟩
  have p3 := P3.out.get hr hk
  have cc : V4.cell? ⟨B + 1, 2, none⟩ = some (.int .i64 0) := p3.box.c2
  have ff := p3.box.fz 2
  have p4 := p3.store 2 _ (p3.box.set2 v2)
  obtain ⟨V4', hV⟩ : ∃ V, V4.setCell ⟨B + 1, 2, none⟩ (.int .i64 v2) = V := ⟨_, rfl⟩
  rw [hV] at p4
  have HV := Lib.hid hV
  have P4 := Lib.hid p4
  clear hr hk p3 p4 hV P3
  go_wp2_with fail
  rw [HV.out]
  clear cc ff HV
  refine (H3.out (B + 2) V4' P4.out.rd).mono ?_
  rintro e V5 ⟨rfl, hr, hk⟩
  have p3 := P4.out.get hr hk
  have cc : V5.cell? ⟨B + 1, 3, none⟩ = some (.int .i64 0) := p3.box.c3
  have ff := p3.box.fz 3
  have p4 := p3.store 3 _ (p3.box.set3 v3)
  obtain ⟨V5', hV⟩ : ∃ V, V5.setCell ⟨B + 1, 3, none⟩ (.int .i64 v3) = V := ⟨_, rfl⟩
  rw [hV] at p4
  have HV := Lib.hid hV
  have P5 := Lib.hid p4
  clear hr hk p3 p4 hV P4
  go_wp2_with fail
  rw [HV.out]
  clear cc ff HV
  refine (H4.out (B + 2) V5' P5.out.rd).mono ?_
  rintro e V6 ⟨rfl, hr, hk⟩
  have p3 := P5.out.get hr hk
  have cc : V6.cell? ⟨B + 1, 0, none⟩ = some (.int .u64 0) := p3.box.c0
  have ff := p3.box.fz 0
  have p4 := p3.store 0 _ (p3.box.set0 v4)
  obtain ⟨V6', hV⟩ : ∃ V, V6.setCell ⟨B + 1, 0, none⟩ (.int .u64 v4) = V := ⟨_, rfl⟩
  rw [hV] at p4
  have HV := Lib.hid hV
  have P6' := Lib.hid p4
  clear hr hk p3 p4 hV P5
  go_wp2_with fail
  rw [HV.out]
  clear cc ff HV
  by_cases h84 : v0 = 84
  · have HO2 : Hid ((en = 0 → ok = true) ∧ (en = 3 → ok = false)) := Lib.hid ⟨fun h => HOK.out.1 ⟨h84, h⟩, fun h => HOK.out.2.1 fun h2 => by omega⟩
    have HO3 := Lib.hid HOK.out.2.2
    clear HOK
    subst h84
    refine (H5.out (B + 2) V6' P6'.out.rd).mono ?_
    rintro e V7 ⟨rfl, hr, hk⟩
    have p3 := P6'.out.get hr hk
    have cc : V7.cell? ⟨B + 1, 1, none⟩ = some (.int .i64 0) := p3.box.c1
    have ff := p3.box.fz 1
    have p4 := p3.store 1 _ (p3.box.set1 v5)
    obtain ⟨V7', hV⟩ : ∃ V, V7.setCell ⟨B + 1, 1, none⟩ (.int .i64 v5) = V := ⟨_, rfl⟩
    rw [hV] at p4
    have HV := Lib.hid hV
    have P7 := Lib.hid p4
    clear hr hk p3 p4 hV P6'
    go_wp2_with fail
    rw [HV.out]
    clear cc ff HV
    have CE := endW (B + 2) l6 s6 V7' P7.out.rd
    rw [HEN.out] at CE
    obtain ⟨⟨z0, z1, z2, z3, z4⟩, f0, f1, f2, f3, f4⟩ := P7.out.res.zero
    have c0 : V7'.cell? ⟨B + 1, 0, none⟩ = some (.int .u64 v4) := P7.out.box.c0
    have c1 : V7'.cell? ⟨B + 1, 1, none⟩ = some (.int .i64 v5) := P7.out.box.c1
    have c2 : V7'.cell? ⟨B + 1, 2, none⟩ = some (.int .i64 v2) := P7.out.box.c2
    have c3 : V7'.cell? ⟨B + 1, 3, none⟩ = some (.int .i64 v3) := P7.out.box.c3
    have c4 : V7'.cell? ⟨B + 1, 4, none⟩ = some (.int .i64 v1) := P7.out.box.c4
    rcases HE3.out with h | h
    · obtain rfl : ok = true := HO2.out.1 h
      subst h
      refine CE.mono ?_
      clear CE HO2
      rintro e _ ⟨rfl, rfl⟩
      go_wp2_with fail
      have HFIN : true = true → (⟨v4, v5, v2, v3, v1⟩ : Hd) = headIn t := fun _ => HO3.out (by trivial)
      have hpt := P7.out.res.put ⟨v4, v5, v2, v3, v1⟩
      have hkt := P7.out.kept.put (Nat.lt_irrefl B) ⟨v4, v5, v2, v3, v1⟩
      have HPT := Lib.hid hpt
      have HKT := Lib.hid hkt
      clear hpt hkt
      try simp only [Exit.inBlock, Exit.then]
      refine bodyPost_ret (results_head rfl _ _ B ⟨v4, v5, v2, v3, v1⟩ rfl HPT.out) rfl ?_
      unfold ParseH
      exact ⟨_, rfl, HKT.out, HFIN⟩
    · obtain rfl : ok = false := HO2.out.2 h
      subst h
      refine CE.mono ?_
      clear CE HO2 HO3
      rintro e _ ⟨rfl, rfl⟩
      go_wp2_with fail
      have HFIN : false = true → noH = headIn t := fun h => by cases h
      have hpt := P7.out.res.put0
      have hkt := P7.out.kept.put0 (Nat.lt_irrefl B)
      have HPT := Lib.hid hpt
      have HKT := Lib.hid hkt
      clear hpt hkt
      try simp only [Exit.inBlock, Exit.then]
      refine bodyPost_ret (results_head rfl _ _ B noH rfl HPT.out) rfl ?_
      unfold ParseH
      exact ⟨_, rfl, HKT.out, HFIN⟩
  · obtain rfl : ok = false := HOK.out.2.1 fun h => h84 h.1
    have n84 : ¬ (v0 : Int) = 84 := by omega
    clear h84 HOK
    refine (H5.out (B + 2) V6' P6'.out.rd).mono ?_
    rintro e V7 ⟨rfl, hr, hk⟩
    have p3 := P6'.out.get hr hk
    have cc : V7.cell? ⟨B + 1, 1, none⟩ = some (.int .i64 0) := p3.box.c1
    have ff := p3.box.fz 1
    have p4 := p3.store 1 _ (p3.box.set1 v5)
    obtain ⟨⟨z0, z1, z2, z3, z4⟩, f0, f1, f2, f3, f4⟩ := p4.res.zero
    have P7 := Lib.hid p4
    clear hr hk p3 p4 P6'
    go_wp2_with fail
    have HFIN : false = true → noH = headIn t := fun h => by cases h
    have hpt := P7.out.res.put0
    have hkt := P7.out.kept.put0 (Nat.lt_irrefl B)
    have HPT := Lib.hid hpt
    have HKT := Lib.hid hkt
    clear hpt hkt
    try simp only [Exit.inBlock, Exit.then]
    refine bodyPost_ret (results_head rfl _ _ B noH rfl HPT.out) rfl ?_
    unfold ParseH
    exact ⟨_, rfl, HKT.out, HFIN⟩

end Go.Proofs.YtkgjmejgkffbdaaGreatDoor
/- Package head's Read. -/
set_option linter.unusedVariables false
namespace Go.Proofs.YtkgjmejgkffbdaaGreatDoor
open Go.RowKit

theorem read_math (s : List UInt8) (ho : openIs s = true) : (parseH (openOf s) = false → isH s = false) ∧ (parseH (openOf s) = true → isH s = goodH (headIn (openOf s)) ∧ headIn (openOf s) = headIn s) := by
  by_cases hl : s.length = 16
  · have ht := openOf_16 s ho hl
    have h0 : (s.take 12).getD 0 0 = s.getD 0 0 := by
      obtain ⟨a, b, c, d, e, f, g, i, j, k, l, m, r, rfl⟩ := take12 s (by omega)
      rfl
    have h12 : (s.take 12).length = 12 := by rw [List.length_take]; omega
    have hi := isH_iff s hl
    rw [ho, Bool.true_and] at hi
    rw [ht, parseH, decide_eq_true h12, Bool.true_and, h0, headIn_take s (by omega)]
    constructor
    · intro h
      rw [← hi, h]; rfl
    · intro h
      rw [h, Bool.true_and] at hi
      exact ⟨hi.symm, rfl⟩
  · have h4 : 4 ≤ s.length := by
      rw [openIs, Bool.and_eq_true] at ho
      exact of_decide_eq_true ho.1
    have h12 : (openOf s).length ≠ 12 := by rw [openOf_length s ho]; omega
    rw [parseH, decide_eq_false h12, Bool.false_and]
    exact ⟨fun _ => isH_short hl, fun h => by cases h⟩

/-- What Read hands back. -/
def ReadH (B : Nat) (w : World) (o : Hd) (er : Int) (e : Ending) (w' : World) : Prop :=
  e = .returned (.tuple #[headV o, .int .i64 er]) ∧ KeptIn (· < B) w w'

set_option maxHeartbeats 2000000 in
set_option maxRecDepth 100000 in
theorem hdRead (s : List UInt8) (w : World) (hT : Tab w) (hs : s.length ≤ 65536) :
    Calls Tryz.prog 86 #[.string ⟨s.toArray⟩] w (ReadH w.heap.size w (headR s) (if isH s then 0 else 3)) := by
  obtain ⟨er, her⟩ : ∃ er : Int, (if isH s then 0 else 3) = er := ⟨_, rfl⟩
  obtain ⟨o, ho⟩ : ∃ o, headR s = o := ⟨_, rfl⟩
  rw [her, ho]
  have HE : Hid ((isH s = false → er = 3 ∧ o = noH) ∧ (isH s = true → er = 0 ∧ o = headIn s)) := Lib.hid
    ⟨fun h => ⟨by rw [← her, h]; rfl, by rw [← ho, headR, h]; rfl⟩, fun h => ⟨by rw [← her, h]; rfl, by rw [← ho, headR, h]; rfl⟩⟩
  clear her ho
  obtain ⟨B, hB⟩ : ∃ B, w.heap.size = B := ⟨_, rfl⟩
  obtain ⟨W0, hW0⟩ : ∃ W0, w.alloc (.cells #[.int .u64 0, .int .i64 0, .int .i64 0, .int .i64 0, .int .i64 0] 39) = W0 := ⟨_, rfl⟩
  have hx0 : BoxH B noH W0 := by rw [← hW0, ← hB]; exact heap_alloc_new w _
  have hk0 : KeptIn (· < B) w W0 := by rw [← hW0]; exact (KeptIn.refl _ w).alloc (fun k hk => by rw [hB]; exact hk) _
  have hT0 : Tab W0 := hT.kept hk0 (by rw [← hB]; exact hT.lt)
  have HQ : Hid (∀ W, KeptIn (· < W0.heap.size) W0 W → BoxH B noH W ∧ KeptIn (· < B) w W) := Lib.hid fun W hk =>
    ⟨hx0.kept hk hx0.lt, hk0.trans (hk.mono fun k h => Nat.lt_trans h hx0.lt)⟩
  have CO := castleOpen s W0 hT0 hs
  have HW0 := Lib.hid hW0
  have HB := Lib.hid hB
  rw [hB]
  clear hx0 hk0 hT0 hW0 hB hT
  cases hoi : openIs s with
  | false =>
    have hn : isH s = false := by
      rw [Bool.eq_false_iff]
      intro h
      have := isH_open h
      rw [hoi] at this
      cases this
    obtain ⟨rfl, rfl⟩ := HE.out.1 hn
    rw [hoi] at CO
    generalize openOf s = t at *
    have HCO := Lib.hid CO
    clear CO hn hoi HE
    go_enter Tryz.func86, Tryz.ntmps86
    go_wp2_with (go_at_call 82; rw [HW0.out, HB.out]; refine HCO.out.mono ?_; rintro e W1 ⟨rfl, k1⟩; obtain ⟨⟨z0, z1, z2, z3, z4⟩, f0, f1, f2, f3, f4⟩ := (HQ.out W1 k1).1.zero)
    have HF := Lib.hid (HQ.out W1 k1)
    have hpt := HF.out.1.put0
    have hkt := HF.out.2.put0 (Nat.lt_irrefl B)
    have HPT := Lib.hid hpt
    have HKT := Lib.hid hkt
    clear hpt hkt
    try simp only [Exit.inBlock, Exit.then]
    refine bodyPost_ret (results_head rfl _ _ B noH rfl HPT.out) rfl ?_
    unfold ReadH
    exact ⟨rfl, HKT.out⟩
  | true =>
    have hm := read_math s hoi
    have hol : (openOf s).length ≤ 65536 := by rw [openOf_length s hoi]; omega
    rw [hoi] at CO
    generalize openOf s = t at *
    have HM := Lib.hid hm
    have HCO := Lib.hid CO
    have HOL := Lib.hid hol
    clear CO hm hol hoi hs
    go_enter Tryz.func86, Tryz.ntmps86
    go_wp2_with (go_at_call 82; rw [HW0.out, HB.out]; refine HCO.out.mono ?_; rintro e W1 ⟨rfl, k1⟩)
    have CP := hdParse t W1 HOL.out
    have K1 := Lib.hid k1
    have hq := k1.size
    have HKP := Lib.hid fun (V : World) (h : KeptIn (· < W1.heap.size) W1 V) => K1.out.trans (h.mono fun k hk => Nat.lt_of_lt_of_le hk hq)
    clear k1 hq
    cases hp : parseH t with
    | false =>
      obtain ⟨rfl, rfl⟩ := HE.out.1 (HM.out.1 hp)
      rw [hp] at CP
      refine CP.mono ?_
      clear CP hp
      rintro e W2 hP
      unfold ParseH at hP
      obtain ⟨⟨g, r, s0, f, c⟩, rfl, k2, _⟩ := hP
      have hf := HQ.out _ (HKP.out _ (k2.alloc (fun _ h => h) (.cells #[.int .u64 g, .int .i64 r, .int .i64 s0, .int .i64 f, .int .i64 c] 39)))
      obtain ⟨⟨z0, z1, z2, z3, z4⟩, f0, f1, f2, f3, f4⟩ := hf.1.zero
      have HF := Lib.hid hf
      clear hf k2
      unfold headV
      simp only
      go_wp2_with fail
      have hpt := HF.out.1.put0
      have hkt := HF.out.2.put0 (Nat.lt_irrefl B)
      have HPT := Lib.hid hpt
      have HKT := Lib.hid hkt
      clear hpt hkt
      try simp only [Exit.inBlock, Exit.then]
      refine bodyPost_ret (results_head rfl _ _ B noH rfl HPT.out) rfl ?_
      unfold ReadH
      exact ⟨rfl, HKT.out⟩
    | true =>
      obtain ⟨hm1, hm2⟩ := HM.out.2 hp
      rw [hp] at CP
      refine CP.mono ?_
      clear CP hp
      rintro e W2 hP
      unfold ParseH at hP
      obtain ⟨h, rfl, k2, hh⟩ := hP
      obtain rfl := hh rfl
      have CG := Lib.hid fun V => hdGood (headIn t) V
      have hx := BoxH.new W2 (headIn t)
      rw [hm2] at CG hx ⊢
      rw [hm2] at hm1
      simp only [← hm1] at CG
      generalize hhi : headIn s = o' at *
      obtain ⟨g, r, s0, f, c⟩ := o'
      unfold headV at *
      simp only at CG hx ⊢
      obtain ⟨x, hxx⟩ : ∃ x, W2.heap.size = x := ⟨_, rfl⟩
      obtain ⟨W3, hW3⟩ : ∃ W3, W2.alloc (.cells #[.int .u64 g, .int .i64 r, .int .i64 s0, .int .i64 f, .int .i64 c] 39) = W3 := ⟨_, rfl⟩
      have k3 : KeptIn (· < W1.heap.size) W1 W3 := by rw [← hW3]; exact k2.alloc (fun _ h => h) _
      rw [hW3, hxx] at hx
      have hf3 := HQ.out _ (HKP.out _ k3)
      have HX := Lib.hid (And.intro hx (And.intro hf3 (And.intro hW3 hxx)))
      have HQ4 := Lib.hid fun (V : World) (h : KeptIn (· < W3.heap.size) W3 V) => HQ.out V (HKP.out V (k3.trans (h.mono fun k hk => Nat.lt_of_lt_of_le hk k3.size)))
      clear hx hf3 hW3 hxx k3 k2 hm1 hm2 hh
      cases his : isH s with
      | false =>
        obtain ⟨rfl, rfl⟩ := HE.out.1 his
        simp only [his] at CG
        clear his
        go_wp2_with (go_at_call 63; rw [HX.out.2.2.1, HX.out.2.2.2]; refine (CG.out W3).mono ?_; rintro e W4 ⟨rfl, k4⟩; obtain ⟨⟨z0, z1, z2, z3, z4⟩, f0, f1, f2, f3, f4⟩ := (HQ4.out W4 k4).1.zero)
        have HF := Lib.hid (HQ4.out W4 k4)
        have hpt := HF.out.1.put0
        have hkt := HF.out.2.put0 (Nat.lt_irrefl B)
        have HPT := Lib.hid hpt
        have HKT := Lib.hid hkt
        clear hpt hkt
        try simp only [Exit.inBlock, Exit.then]
        refine bodyPost_ret (results_head rfl _ _ B noH rfl HPT.out) rfl ?_
        unfold ReadH
        exact ⟨rfl, HKT.out⟩
      | true =>
        obtain ⟨rfl, ho⟩ := HE.out.2 his
        subst ho
        simp only [his] at CG
        clear his
        have HC4 := Lib.hid fun (V : World) (h : KeptIn (· < W3.heap.size) W3 V) => (show V.cell? ⟨x, 0, none⟩ = some (.int .u64 g) ∧ V.cell? ⟨x, 1, none⟩ = some (.int .i64 r) ∧ V.cell? ⟨x, 2, none⟩ = some (.int .i64 s0) ∧ V.cell? ⟨x, 3, none⟩ = some (.int .i64 f) ∧ V.cell? ⟨x, 4, none⟩ = some (.int .i64 c) from
          have hx := HX.out.1.kept h HX.out.1.lt
          ⟨hx.c0, hx.c1, hx.c2, hx.c3, hx.c4⟩)
        clear hhi
        go_wp2_with (go_at_call 63; rw [HX.out.2.2.1, HX.out.2.2.2]; refine (CG.out W3).mono ?_; rintro e W4 ⟨rfl, k4⟩; obtain ⟨⟨z0, z1, z2, z3, z4⟩, f0, f1, f2, f3, f4⟩ := (HQ4.out W4 k4).1.zero; obtain ⟨c0, c1, c2, c3, c4⟩ := HC4.out W4 k4)
        have hpt := (HQ4.out W4 k4).1.put ⟨g, r, s0, f, c⟩
        have hkt := (HQ4.out W4 k4).2.put (Nat.lt_irrefl B) ⟨g, r, s0, f, c⟩
        have HPT := Lib.hid hpt
        have HKT := Lib.hid hkt
        clear hpt hkt
        try simp only [Exit.inBlock, Exit.then]
        refine bodyPost_ret (results_head rfl _ _ B ⟨g, r, s0, f, c⟩ rfl HPT.out) rfl ?_
        unfold ReadH
        exact ⟨rfl, HKT.out⟩

end Go.Proofs.YtkgjmejgkffbdaaGreatDoor
/- Package head's Newest. -/
set_option linter.unusedVariables false
namespace Go.Proofs.YtkgjmejgkffbdaaGreatDoor
open Go.RowKit

/-- The newest of two sectors, which of them it is, and whether there is one. -/
def newH (a b : List UInt8) : Hd × Int × Bool :=
  if isH a && (!isH b || decide ((headIn b).gen ≤ (headIn a).gen)) then (headIn a, 0, true) else if isH b then (headIn b, 1, true) else (noH, 0, false)

theorem gen_pos {s : List UInt8} (h : isH s = true) : 1 ≤ (headIn s).gen := by
  simp only [isH, Bool.and_eq_true, goodH, decide_eq_true_iff] at h
  exact h.2.1.1

theorem new_none {a b : List UInt8} (ha : isH a = false) (hb : isH b = false) : newH a b = (noH, 0, false) := by
  rw [newH, ha, hb]; rfl
theorem new_some {a b : List UInt8} (h : isH a = true ∨ isH b = true) : newH a b = if (headR b).gen ≤ (headR a).gen then (headR a, 0, true) else (headR b, 1, true) := by
  cases ha : isH a with
  | false =>
    have hb : isH b = true := by
      rcases h with h | h
      · rw [ha] at h; cases h
      · exact h
    have hp := gen_pos hb
    rw [newH, headR, headR, ha, hb]
    simp only [Bool.false_and, Bool.false_eq_true, if_false, if_true, noH]
    rw [if_neg (by omega)]
  | true =>
    cases hb : isH b with
    | false =>
      rw [newH, headR, headR, ha, hb]
      simp [noH]
    | true =>
      rw [newH, headR, headR, ha, hb]
      by_cases hl : (headIn b).gen ≤ (headIn a).gen <;> simp [hl]

/-- What Newest hands back. -/
def NewH (B : Nat) (w : World) (o : Hd) (i er : Int) (e : Ending) (w' : World) : Prop :=
  e = .returned (.tuple #[headV o, .int .i64 i, .int .i64 er]) ∧ KeptIn (· < B) w w'

set_option maxHeartbeats 2000000 in
set_option maxRecDepth 100000 in
theorem hdNewest (a b : List UInt8) (w : World) (hT : Tab w) (ha : a.length ≤ 65536) (hb : b.length ≤ 65536) :
    Calls Tryz.prog 54 #[.string ⟨a.toArray⟩, .string ⟨b.toArray⟩] w (NewH w.heap.size w (newH a b).1 (newH a b).2.1 (if (newH a b).2.2 then 0 else 3)) := by
  obtain ⟨B, hB⟩ : ∃ B, w.heap.size = B := ⟨_, rfl⟩
  obtain ⟨W0, hW0⟩ : ∃ W0, w.alloc (.cells #[.int .u64 0, .int .i64 0, .int .i64 0, .int .i64 0, .int .i64 0] 39) = W0 := ⟨_, rfl⟩
  have hx0 : BoxH B noH W0 := by rw [← hW0, ← hB]; exact heap_alloc_new w _
  have hk0 : KeptIn (· < B) w W0 := by rw [← hW0]; exact (KeptIn.refl _ w).alloc (fun k hk => by rw [hB]; exact hk) _
  have hT0 : Tab W0 := hT.kept hk0 (by rw [← hB]; exact hT.lt)
  have HQ : Hid (∀ W, KeptIn (· < W0.heap.size) W0 W → BoxH B noH W ∧ KeptIn (· < B) w W) := Lib.hid fun W hk =>
    ⟨hx0.kept hk hx0.lt, hk0.trans (hk.mono fun k h => Nat.lt_trans h hx0.lt)⟩
  have CA := hdRead a W0 hT0 ha
  have CB := fun V (hk : KeptIn (· < W0.heap.size) W0 V) => hdRead b V (hT0.kept hk hT0.lt) hb
  have HW0 := Lib.hid hW0
  have HB := Lib.hid hB
  rw [hB]
  obtain ⟨⟨o, i, is⟩, hn⟩ : ∃ n, newH a b = n := ⟨_, rfl⟩
  rw [hn]
  have HN : Hid ((isH a = false ∧ isH b = false → (o, i, is) = (noH, 0, false)) ∧ (isH a = true ∨ isH b = true → (o, i, is) = if (headR b).gen ≤ (headR a).gen then (headR a, 0, true) else (headR b, 1, true))) := Lib.hid
    ⟨fun h => by rw [← hn]; exact new_none h.1 h.2, fun h => by rw [← hn]; exact new_some h⟩
  obtain ⟨oa, hoa⟩ : ∃ o, headR a = o := ⟨_, rfl⟩
  obtain ⟨ob, hob⟩ : ∃ o, headR b = o := ⟨_, rfl⟩
  rw [hoa] at CA
  simp only [hob] at CB
  rw [hoa, hob] at HN
  obtain ⟨g, r, s, f, c⟩ := oa
  obtain ⟨g', r', s', f', c'⟩ := ob
  simp only at HN ⊢
  clear hx0 hk0 hT0 hW0 hB hT hoa hob hn ha hb
  obtain ⟨ia, hia⟩ : ∃ i, isH a = i := ⟨_, rfl⟩
  obtain ⟨ib, hib⟩ : ∃ i, isH b = i := ⟨_, rfl⟩
  rw [hia, hib] at HN
  rw [hia] at CA
  simp only [hib] at CB
  clear hia hib
  cases ia with
  | false =>
    have HCA := Lib.hid CA
    clear CA
    cases ib with
    | false =>
      have HCB := Lib.hid CB
      clear CB
      have hnn := HN.out.1 ⟨rfl, rfl⟩
      simp only [Prod.mk.injEq] at hnn
      obtain ⟨rfl, rfl, rfl⟩ := hnn
      clear HN
      go_enter Tryz.func54, Tryz.ntmps54
      go_wp2_with (go_at_call 86; rw [HW0.out, HB.out]; refine HCA.out.mono ?_; rintro e W1 hR; unfold ReadH headV at hR; obtain ⟨rfl, k1⟩ := hR; simp only [])
      obtain ⟨x, hx⟩ : ∃ x, W1.heap.size = x := ⟨_, rfl⟩
      obtain ⟨W2, hW2⟩ : ∃ W2, W1.alloc (.cells #[.int .u64 g, .int .i64 r, .int .i64 s, .int .i64 f, .int .i64 c] 39) = W2 := ⟨_, rfl⟩
      have bx : BoxH x ⟨g, r, s, f, c⟩ W2 := by rw [← hW2, ← hx]; exact BoxH.new W1 ⟨g, r, s, f, c⟩
      have k2 : KeptIn (· < W0.heap.size) W0 W2 := by rw [← hW2]; exact k1.alloc (fun _ h => h) _
      rw [hW2, hx]
      have HX := Lib.hid (And.intro bx k2)
      clear bx k2 k1 hW2 hx
      refine (HCB.out W2 HX.out.2).mono ?_
      rintro e W3 hR
      unfold ReadH headV at hR
      obtain ⟨rfl, k3⟩ := hR
      have k4 : KeptIn (· < W2.heap.size) W2 (W3.alloc (.cells #[.int .u64 g', .int .i64 r', .int .i64 s', .int .i64 f', .int .i64 c'] 39)) := k3.alloc (fun _ h => h) _
      have hx4 := HX.out.1.kept k4 HX.out.1.lt
      have hf4 := HQ.out _ (HX.out.2.trans (k4.mono fun k hk => Nat.lt_of_lt_of_le hk HX.out.2.size))
      have c0 := hx4.c0; have c1 := hx4.c1; have c2 := hx4.c2; have c3 := hx4.c3; have c4 := hx4.c4
      obtain ⟨⟨z0, z1, z2, z3, z4⟩, f0, f1, f2, f3, f4⟩ := hf4.1.zero
      simp only at c0 c1 c2 c3 c4
      have HF := Lib.hid hf4
      clear hx4 hf4 k4 k3
      go_wp2_with fail
      have hpt := HF.out.1.put0
      have hkt := HF.out.2.put0 (Nat.lt_irrefl B)
      have HPT := Lib.hid hpt
      have HKT := Lib.hid hkt
      clear hpt hkt
      try simp only [Exit.inBlock, Exit.then]
      refine bodyPost_ret (results_head3 rfl _ _ B noH rfl HPT.out) rfl ?_
      unfold NewH
      exact ⟨rfl, HKT.out⟩
    | true =>
      have HCB := Lib.hid CB
      clear CB
      by_cases hle : g' ≤ g
      · have hle' : (g' : Int) ≤ (g : Int) := by omega
        have hnn := HN.out.2 (by simp)
        rw [if_pos hle] at hnn
        simp only [Prod.mk.injEq] at hnn
        obtain ⟨rfl, rfl, rfl⟩ := hnn
        clear hle HN
        go_enter Tryz.func54, Tryz.ntmps54
        go_wp2_with (go_at_call 86; rw [HW0.out, HB.out]; refine HCA.out.mono ?_; rintro e W1 hR; unfold ReadH headV at hR; obtain ⟨rfl, k1⟩ := hR; simp only [])
        obtain ⟨x, hx⟩ : ∃ x, W1.heap.size = x := ⟨_, rfl⟩
        obtain ⟨W2, hW2⟩ : ∃ W2, W1.alloc (.cells #[.int .u64 g, .int .i64 r, .int .i64 s, .int .i64 f, .int .i64 c] 39) = W2 := ⟨_, rfl⟩
        have bx : BoxH x ⟨g, r, s, f, c⟩ W2 := by rw [← hW2, ← hx]; exact BoxH.new W1 ⟨g, r, s, f, c⟩
        have k2 : KeptIn (· < W0.heap.size) W0 W2 := by rw [← hW2]; exact k1.alloc (fun _ h => h) _
        rw [hW2, hx]
        have HX := Lib.hid (And.intro bx k2)
        clear bx k2 k1 hW2 hx
        refine (HCB.out W2 HX.out.2).mono ?_
        rintro e W3 hR
        unfold ReadH headV at hR
        obtain ⟨rfl, k3⟩ := hR
        have k4 : KeptIn (· < W2.heap.size) W2 (W3.alloc (.cells #[.int .u64 g', .int .i64 r', .int .i64 s', .int .i64 f', .int .i64 c'] 39)) := k3.alloc (fun _ h => h) _
        have hx4 := HX.out.1.kept k4 HX.out.1.lt
        have hf4 := HQ.out _ (HX.out.2.trans (k4.mono fun k hk => Nat.lt_of_lt_of_le hk HX.out.2.size))
        have c0 := hx4.c0; have c1 := hx4.c1; have c2 := hx4.c2; have c3 := hx4.c3; have c4 := hx4.c4
        obtain ⟨⟨z0, z1, z2, z3, z4⟩, f0, f1, f2, f3, f4⟩ := hf4.1.zero
        simp only at c0 c1 c2 c3 c4
        have HF := Lib.hid hf4
        clear hx4 hf4 k4 k3
        go_wp2_with fail
        have hpt := HF.out.1.put ⟨g, r, s, f, c⟩
        have hkt := HF.out.2.put (Nat.lt_irrefl B) ⟨g, r, s, f, c⟩
        have HPT := Lib.hid hpt
        have HKT := Lib.hid hkt
        clear hpt hkt
        try simp only [Exit.inBlock, Exit.then]
        refine bodyPost_ret (results_head3 rfl _ _ B ⟨g, r, s, f, c⟩ rfl HPT.out) rfl ?_
        unfold NewH
        exact ⟨rfl, HKT.out⟩
      · have hle' : ¬ (g' : Int) ≤ (g : Int) := by omega
        have hnn := HN.out.2 (by simp)
        rw [if_neg hle] at hnn
        simp only [Prod.mk.injEq] at hnn
        obtain ⟨rfl, rfl, rfl⟩ := hnn
        clear hle HN
        go_enter Tryz.func54, Tryz.ntmps54
        go_wp2_with (go_at_call 86; rw [HW0.out, HB.out]; refine HCA.out.mono ?_; rintro e W1 hR; unfold ReadH headV at hR; obtain ⟨rfl, k1⟩ := hR; simp only [])
        obtain ⟨x, hx⟩ : ∃ x, W1.heap.size = x := ⟨_, rfl⟩
        obtain ⟨W2, hW2⟩ : ∃ W2, W1.alloc (.cells #[.int .u64 g, .int .i64 r, .int .i64 s, .int .i64 f, .int .i64 c] 39) = W2 := ⟨_, rfl⟩
        have bx : BoxH x ⟨g, r, s, f, c⟩ W2 := by rw [← hW2, ← hx]; exact BoxH.new W1 ⟨g, r, s, f, c⟩
        have k2 : KeptIn (· < W0.heap.size) W0 W2 := by rw [← hW2]; exact k1.alloc (fun _ h => h) _
        rw [hW2, hx]
        have HX := Lib.hid (And.intro bx k2)
        clear bx k2 k1 hW2 hx
        refine (HCB.out W2 HX.out.2).mono ?_
        rintro e W3 hR
        unfold ReadH headV at hR
        obtain ⟨rfl, k3⟩ := hR
        have k4 : KeptIn (· < W2.heap.size) W2 (W3.alloc (.cells #[.int .u64 g', .int .i64 r', .int .i64 s', .int .i64 f', .int .i64 c'] 39)) := k3.alloc (fun _ h => h) _
        have hx4 := HX.out.1.kept k4 HX.out.1.lt
        have hf4 := HQ.out _ (HX.out.2.trans (k4.mono fun k hk => Nat.lt_of_lt_of_le hk HX.out.2.size))
        have c0 := hx4.c0; have c1 := hx4.c1; have c2 := hx4.c2; have c3 := hx4.c3; have c4 := hx4.c4
        obtain ⟨⟨z0, z1, z2, z3, z4⟩, f0, f1, f2, f3, f4⟩ := hf4.1.zero
        simp only at c0 c1 c2 c3 c4
        have HF := Lib.hid hf4
        clear hx4 hf4 k4 k3
        go_wp2_with fail
        have hpt := HF.out.1.put ⟨g', r', s', f', c'⟩
        have hkt := HF.out.2.put (Nat.lt_irrefl B) ⟨g', r', s', f', c'⟩
        have HPT := Lib.hid hpt
        have HKT := Lib.hid hkt
        clear hpt hkt
        try simp only [Exit.inBlock, Exit.then]
        refine bodyPost_ret (results_head3 rfl _ _ B ⟨g', r', s', f', c'⟩ rfl HPT.out) rfl ?_
        unfold NewH
        exact ⟨rfl, HKT.out⟩
  | true =>
    have HCA := Lib.hid CA
    clear CA
    cases ib with
    | false =>
      have HCB := Lib.hid CB
      clear CB
      by_cases hle : g' ≤ g
      · have hle' : (g' : Int) ≤ (g : Int) := by omega
        have hnn := HN.out.2 (by simp)
        rw [if_pos hle] at hnn
        simp only [Prod.mk.injEq] at hnn
        obtain ⟨rfl, rfl, rfl⟩ := hnn
        clear hle HN
        go_enter Tryz.func54, Tryz.ntmps54
        go_wp2_with (go_at_call 86; rw [HW0.out, HB.out]; refine HCA.out.mono ?_; rintro e W1 hR; unfold ReadH headV at hR; obtain ⟨rfl, k1⟩ := hR; simp only [])
        obtain ⟨x, hx⟩ : ∃ x, W1.heap.size = x := ⟨_, rfl⟩
        obtain ⟨W2, hW2⟩ : ∃ W2, W1.alloc (.cells #[.int .u64 g, .int .i64 r, .int .i64 s, .int .i64 f, .int .i64 c] 39) = W2 := ⟨_, rfl⟩
        have bx : BoxH x ⟨g, r, s, f, c⟩ W2 := by rw [← hW2, ← hx]; exact BoxH.new W1 ⟨g, r, s, f, c⟩
        have k2 : KeptIn (· < W0.heap.size) W0 W2 := by rw [← hW2]; exact k1.alloc (fun _ h => h) _
        rw [hW2, hx]
        have HX := Lib.hid (And.intro bx k2)
        clear bx k2 k1 hW2 hx
        refine (HCB.out W2 HX.out.2).mono ?_
        rintro e W3 hR
        unfold ReadH headV at hR
        obtain ⟨rfl, k3⟩ := hR
        have k4 : KeptIn (· < W2.heap.size) W2 (W3.alloc (.cells #[.int .u64 g', .int .i64 r', .int .i64 s', .int .i64 f', .int .i64 c'] 39)) := k3.alloc (fun _ h => h) _
        have hx4 := HX.out.1.kept k4 HX.out.1.lt
        have hf4 := HQ.out _ (HX.out.2.trans (k4.mono fun k hk => Nat.lt_of_lt_of_le hk HX.out.2.size))
        have c0 := hx4.c0; have c1 := hx4.c1; have c2 := hx4.c2; have c3 := hx4.c3; have c4 := hx4.c4
        obtain ⟨⟨z0, z1, z2, z3, z4⟩, f0, f1, f2, f3, f4⟩ := hf4.1.zero
        simp only at c0 c1 c2 c3 c4
        have HF := Lib.hid hf4
        clear hx4 hf4 k4 k3
        go_wp2_with fail
        have hpt := HF.out.1.put ⟨g, r, s, f, c⟩
        have hkt := HF.out.2.put (Nat.lt_irrefl B) ⟨g, r, s, f, c⟩
        have HPT := Lib.hid hpt
        have HKT := Lib.hid hkt
        clear hpt hkt
        try simp only [Exit.inBlock, Exit.then]
        refine bodyPost_ret (results_head3 rfl _ _ B ⟨g, r, s, f, c⟩ rfl HPT.out) rfl ?_
        unfold NewH
        exact ⟨rfl, HKT.out⟩
      · have hle' : ¬ (g' : Int) ≤ (g : Int) := by omega
        have hnn := HN.out.2 (by simp)
        rw [if_neg hle] at hnn
        simp only [Prod.mk.injEq] at hnn
        obtain ⟨rfl, rfl, rfl⟩ := hnn
        clear hle HN
        go_enter Tryz.func54, Tryz.ntmps54
        go_wp2_with (go_at_call 86; rw [HW0.out, HB.out]; refine HCA.out.mono ?_; rintro e W1 hR; unfold ReadH headV at hR; obtain ⟨rfl, k1⟩ := hR; simp only [])
        obtain ⟨x, hx⟩ : ∃ x, W1.heap.size = x := ⟨_, rfl⟩
        obtain ⟨W2, hW2⟩ : ∃ W2, W1.alloc (.cells #[.int .u64 g, .int .i64 r, .int .i64 s, .int .i64 f, .int .i64 c] 39) = W2 := ⟨_, rfl⟩
        have bx : BoxH x ⟨g, r, s, f, c⟩ W2 := by rw [← hW2, ← hx]; exact BoxH.new W1 ⟨g, r, s, f, c⟩
        have k2 : KeptIn (· < W0.heap.size) W0 W2 := by rw [← hW2]; exact k1.alloc (fun _ h => h) _
        rw [hW2, hx]
        have HX := Lib.hid (And.intro bx k2)
        clear bx k2 k1 hW2 hx
        refine (HCB.out W2 HX.out.2).mono ?_
        rintro e W3 hR
        unfold ReadH headV at hR
        obtain ⟨rfl, k3⟩ := hR
        have k4 : KeptIn (· < W2.heap.size) W2 (W3.alloc (.cells #[.int .u64 g', .int .i64 r', .int .i64 s', .int .i64 f', .int .i64 c'] 39)) := k3.alloc (fun _ h => h) _
        have hx4 := HX.out.1.kept k4 HX.out.1.lt
        have hf4 := HQ.out _ (HX.out.2.trans (k4.mono fun k hk => Nat.lt_of_lt_of_le hk HX.out.2.size))
        have c0 := hx4.c0; have c1 := hx4.c1; have c2 := hx4.c2; have c3 := hx4.c3; have c4 := hx4.c4
        obtain ⟨⟨z0, z1, z2, z3, z4⟩, f0, f1, f2, f3, f4⟩ := hf4.1.zero
        simp only at c0 c1 c2 c3 c4
        have HF := Lib.hid hf4
        clear hx4 hf4 k4 k3
        go_wp2_with fail
        have hpt := HF.out.1.put ⟨g', r', s', f', c'⟩
        have hkt := HF.out.2.put (Nat.lt_irrefl B) ⟨g', r', s', f', c'⟩
        have HPT := Lib.hid hpt
        have HKT := Lib.hid hkt
        clear hpt hkt
        try simp only [Exit.inBlock, Exit.then]
        refine bodyPost_ret (results_head3 rfl _ _ B ⟨g', r', s', f', c'⟩ rfl HPT.out) rfl ?_
        unfold NewH
        exact ⟨rfl, HKT.out⟩
    | true =>
      have HCB := Lib.hid CB
      clear CB
      by_cases hle : g' ≤ g
      · have hle' : (g' : Int) ≤ (g : Int) := by omega
        have hnn := HN.out.2 (by simp)
        rw [if_pos hle] at hnn
        simp only [Prod.mk.injEq] at hnn
        obtain ⟨rfl, rfl, rfl⟩ := hnn
        clear hle HN
        go_enter Tryz.func54, Tryz.ntmps54
        go_wp2_with (go_at_call 86; rw [HW0.out, HB.out]; refine HCA.out.mono ?_; rintro e W1 hR; unfold ReadH headV at hR; obtain ⟨rfl, k1⟩ := hR; simp only [])
        obtain ⟨x, hx⟩ : ∃ x, W1.heap.size = x := ⟨_, rfl⟩
        obtain ⟨W2, hW2⟩ : ∃ W2, W1.alloc (.cells #[.int .u64 g, .int .i64 r, .int .i64 s, .int .i64 f, .int .i64 c] 39) = W2 := ⟨_, rfl⟩
        have bx : BoxH x ⟨g, r, s, f, c⟩ W2 := by rw [← hW2, ← hx]; exact BoxH.new W1 ⟨g, r, s, f, c⟩
        have k2 : KeptIn (· < W0.heap.size) W0 W2 := by rw [← hW2]; exact k1.alloc (fun _ h => h) _
        rw [hW2, hx]
        have HX := Lib.hid (And.intro bx k2)
        clear bx k2 k1 hW2 hx
        refine (HCB.out W2 HX.out.2).mono ?_
        rintro e W3 hR
        unfold ReadH headV at hR
        obtain ⟨rfl, k3⟩ := hR
        have k4 : KeptIn (· < W2.heap.size) W2 (W3.alloc (.cells #[.int .u64 g', .int .i64 r', .int .i64 s', .int .i64 f', .int .i64 c'] 39)) := k3.alloc (fun _ h => h) _
        have hx4 := HX.out.1.kept k4 HX.out.1.lt
        have hf4 := HQ.out _ (HX.out.2.trans (k4.mono fun k hk => Nat.lt_of_lt_of_le hk HX.out.2.size))
        have c0 := hx4.c0; have c1 := hx4.c1; have c2 := hx4.c2; have c3 := hx4.c3; have c4 := hx4.c4
        obtain ⟨⟨z0, z1, z2, z3, z4⟩, f0, f1, f2, f3, f4⟩ := hf4.1.zero
        simp only at c0 c1 c2 c3 c4
        have HF := Lib.hid hf4
        clear hx4 hf4 k4 k3
        go_wp2_with fail
        have hpt := HF.out.1.put ⟨g, r, s, f, c⟩
        have hkt := HF.out.2.put (Nat.lt_irrefl B) ⟨g, r, s, f, c⟩
        have HPT := Lib.hid hpt
        have HKT := Lib.hid hkt
        clear hpt hkt
        try simp only [Exit.inBlock, Exit.then]
        refine bodyPost_ret (results_head3 rfl _ _ B ⟨g, r, s, f, c⟩ rfl HPT.out) rfl ?_
        unfold NewH
        exact ⟨rfl, HKT.out⟩
      · have hle' : ¬ (g' : Int) ≤ (g : Int) := by omega
        have hnn := HN.out.2 (by simp)
        rw [if_neg hle] at hnn
        simp only [Prod.mk.injEq] at hnn
        obtain ⟨rfl, rfl, rfl⟩ := hnn
        clear hle HN
        go_enter Tryz.func54, Tryz.ntmps54
        go_wp2_with (go_at_call 86; rw [HW0.out, HB.out]; refine HCA.out.mono ?_; rintro e W1 hR; unfold ReadH headV at hR; obtain ⟨rfl, k1⟩ := hR; simp only [])
        obtain ⟨x, hx⟩ : ∃ x, W1.heap.size = x := ⟨_, rfl⟩
        obtain ⟨W2, hW2⟩ : ∃ W2, W1.alloc (.cells #[.int .u64 g, .int .i64 r, .int .i64 s, .int .i64 f, .int .i64 c] 39) = W2 := ⟨_, rfl⟩
        have bx : BoxH x ⟨g, r, s, f, c⟩ W2 := by rw [← hW2, ← hx]; exact BoxH.new W1 ⟨g, r, s, f, c⟩
        have k2 : KeptIn (· < W0.heap.size) W0 W2 := by rw [← hW2]; exact k1.alloc (fun _ h => h) _
        rw [hW2, hx]
        have HX := Lib.hid (And.intro bx k2)
        clear bx k2 k1 hW2 hx
        refine (HCB.out W2 HX.out.2).mono ?_
        rintro e W3 hR
        unfold ReadH headV at hR
        obtain ⟨rfl, k3⟩ := hR
        have k4 : KeptIn (· < W2.heap.size) W2 (W3.alloc (.cells #[.int .u64 g', .int .i64 r', .int .i64 s', .int .i64 f', .int .i64 c'] 39)) := k3.alloc (fun _ h => h) _
        have hx4 := HX.out.1.kept k4 HX.out.1.lt
        have hf4 := HQ.out _ (HX.out.2.trans (k4.mono fun k hk => Nat.lt_of_lt_of_le hk HX.out.2.size))
        have c0 := hx4.c0; have c1 := hx4.c1; have c2 := hx4.c2; have c3 := hx4.c3; have c4 := hx4.c4
        obtain ⟨⟨z0, z1, z2, z3, z4⟩, f0, f1, f2, f3, f4⟩ := hf4.1.zero
        simp only at c0 c1 c2 c3 c4
        have HF := Lib.hid hf4
        clear hx4 hf4 k4 k3
        go_wp2_with fail
        have hpt := HF.out.1.put ⟨g', r', s', f', c'⟩
        have hkt := HF.out.2.put (Nat.lt_irrefl B) ⟨g', r', s', f', c'⟩
        have HPT := Lib.hid hpt
        have HKT := Lib.hid hkt
        clear hpt hkt
        try simp only [Exit.inBlock, Exit.then]
        refine bodyPost_ret (results_head3 rfl _ _ B ⟨g', r', s', f', c'⟩ rfl HPT.out) rfl ?_
        unfold NewH
        exact ⟨rfl, HKT.out⟩

end Go.Proofs.YtkgjmejgkffbdaaGreatDoor
/- Nodes of trees as bytes: the mathematics of layer 5. Of no program. -/
set_option linter.unusedVariables false
namespace Go.Proofs.YtkgjmejgkffbdaaGreatDoor
open Go.RowKit

/-- A pair's bytes. -/
def pairB (p : Nat × Nat) : List UInt8 := bytesLE p.1 8 ++ bytesLE p.2 8
theorem pairB_length (p : Nat × Nat) : (pairB p).length = 16 := by simp [pairB, bytesLE_length]
def pairsB : Pairs → List UInt8
  | [] => []
  | p :: r => pairB p ++ pairsB r
theorem pairsB_length (ps : Pairs) : (pairsB ps).length = 16 * ps.length := by
  induction ps with
  | nil => rfl
  | cons p r ih => rw [pairsB, List.length_append, pairB_length, ih, List.length_cons]; omega
theorem pairsB_append (ps qs : Pairs) : pairsB (ps ++ qs) = pairsB ps ++ pairsB qs := by
  induction ps with
  | nil => rfl
  | cons p r ih => rw [List.cons_append, pairsB, ih, pairsB, List.append_assoc]
theorem pairsB_take (ps : Pairs) (j : Nat) (h : j < ps.length) : pairsB (ps.take (j + 1)) = pairsB (ps.take j) ++ (bytesLE (keyAt ps j) 8 ++ bytesLE (valAt ps j) 8) := by
  rw [List.take_succ_eq_append_getElem h, pairsB_append, keyAt_get h, valAt_get h]
  simp [pairsB, pairB]

/-- A node's text, ahead of the sum. -/
def headB (lv : Int) (n : Nat) : List UInt8 := [76, UInt8.ofNat lv.toNat, UInt8.ofNat n, 0]
def textN (lv : Int) (ps : Pairs) : List UInt8 := headB lv ps.length ++ pairsB ps ++ List.replicate (248 - 16 * ps.length) 0
/-- A node's bytes. -/
def bytesN (lv : Int) (ps : Pairs) : List UInt8 := sealOf (textN lv ps)

theorem textN_length (lv : Int) (ps : Pairs) (h : ps.length ≤ 15) : (textN lv ps).length = 252 := by
  simp only [textN, List.length_append, pairsB_length, List.length_replicate, headB, List.length_cons, List.length_nil]; omega
theorem bytesN_length (lv : Int) (ps : Pairs) (h : ps.length ≤ 15) : (bytesN lv ps).length = 256 := by
  rw [bytesN, sealOf_length, textN_length _ _ h]

/-- The first pair that bytes tell. -/
def pairIn (u : List UInt8) : Nat × Nat := (numLE (u.take 8), numLE ((u.drop 8).take 8))
/-- The first n pairs that bytes tell. -/
def pairsIn : Nat → List UInt8 → Pairs
  | 0, _ => []
  | n + 1, u => pairIn u :: pairsIn n (u.drop 16)

theorem pairsIn_length (n : Nat) : ∀ u, (pairsIn n u).length = n := by
  induction n with
  | zero => intro u; rfl
  | succ n ih => intro u; rw [pairsIn, List.length_cons, ih]

theorem pairsIn_snoc (n : Nat) : ∀ u, pairsIn (n + 1) u = pairsIn n u ++ [pairIn (u.drop (16 * n))] := by
  induction n with
  | zero => intro u; simp [pairsIn]
  | succ n ih =>
    intro u
    rw [pairsIn, ih, pairsIn, List.cons_append, List.drop_drop, show 16 + 16 * n = 16 * (n + 1) by omega]

theorem pairIn_append (x y : List UInt8) (h : 16 ≤ x.length) : pairIn (x ++ y) = pairIn x := by
  unfold pairIn
  rw [List.take_append_of_le_length (by omega), List.drop_append_of_le_length (by omega), List.take_append_of_le_length (by rw [List.length_drop]; omega)]

theorem pairsIn_append (n : Nat) : ∀ (x y : List UInt8), 16 * n ≤ x.length → pairsIn n (x ++ y) = pairsIn n x := by
  induction n with
  | zero => intro x y _; rfl
  | succ n ih =>
    intro x y h
    rw [pairsIn, pairsIn, pairIn_append x y (by omega), List.drop_append_of_le_length (by omega), ih _ _ (by rw [List.length_drop]; omega)]

theorem pairIn_lt (u : List UInt8) : (pairIn u).1 < 18446744073709551616 ∧ (pairIn u).2 < 18446744073709551616 := by
  have h : ∀ v : List UInt8, v.length ≤ 8 → numLE v < 18446744073709551616 := fun v hv => by
    have h1 := numLE_lt v
    have h2 : 2 ^ (8 * v.length) ≤ 2 ^ 64 := Nat.pow_le_pow_right (by decide) (by omega)
    omega
  exact ⟨h _ (by rw [List.length_take]; omega), h _ (by rw [List.length_take]; omega)⟩

theorem pairsIn_fits (n : Nat) : ∀ u, Fits (pairsIn n u) := by
  induction n with
  | zero => intro u p hp; cases hp
  | succ n ih =>
    intro u p hp
    rcases List.mem_cons.1 hp with rfl | h
    · exact pairIn_lt u
    · exact ih _ p h

theorem pairB_pairIn (u : List UInt8) (h : 16 ≤ u.length) : pairB (pairIn u) = u.take 16 := by
  have h1 : (u.take 8).length = 8 := by rw [List.length_take]; omega
  have h2 : ((u.drop 8).take 8).length = 8 := by rw [List.length_take, List.length_drop]; omega
  have e1 := bytesLE_numLE (u.take 8)
  have e2 := bytesLE_numLE ((u.drop 8).take 8)
  rw [h1] at e1
  rw [h2] at e2
  unfold pairB pairIn
  rw [e1, e2, show 16 = 8 + 8 by rfl, List.take_add]

theorem pairsB_pairsIn (n : Nat) : ∀ u, 16 * n ≤ u.length → pairsB (pairsIn n u) = u.take (16 * n) := by
  induction n with
  | zero => intro u _; rfl
  | succ n ih =>
    intro u h
    rw [pairsIn, pairsB, pairB_pairIn u (by omega), ih _ (by rw [List.length_drop]; omega), show 16 * (n + 1) = 16 + 16 * n by omega, List.take_add]

theorem pairIn_pairB (p : Nat × Nat) (r : List UInt8) (h1 : p.1 < 18446744073709551616) (h2 : p.2 < 18446744073709551616) : pairIn (pairB p ++ r) = p := by
  unfold pairIn pairB
  have l1 := bytesLE_length p.1 8
  have l2 := bytesLE_length p.2 8
  rw [List.append_assoc, List.take_left' l1, List.drop_left' l1, List.take_left' l2, numLE_bytesLE, numLE_bytesLE]
  rw [Nat.mod_eq_of_lt (by omega), Nat.mod_eq_of_lt (by omega)]

theorem pairsIn_pairsB (ps : Pairs) (r : List UInt8) (h : Fits ps) : pairsIn ps.length (pairsB ps ++ r) = ps := by
  induction ps with
  | nil => rfl
  | cons p q ih =>
    have hp := h p List.mem_cons_self
    rw [List.length_cons, pairsIn, pairsB, List.append_assoc, pairIn_pairB _ _ hp.1 hp.2, List.drop_left' (pairB_length p), ih fun x hx => h x (List.mem_cons_of_mem _ hx)]

/-- What the bytes of a page tell: the level, the pairs. -/
def lvIn (s : List UInt8) : Nat := (s.getD 1 0).toNat
def cntIn (s : List UInt8) : Nat := (s.getD 2 0).toNat
def psIn (s : List UInt8) : Pairs := pairsIn (min (cntIn s) 15) (s.drop 4)
/-- Whether a page is a node's. -/
def isN (s : List UInt8) : Bool := decide (s.length = 256) && goodN (lvIn s) (psIn s) && decide (bytesN (lvIn s) (psIn s) = s)


theorem textN_parts (lv : Int) (ps : Pairs) : textN lv ps = 76 :: UInt8.ofNat lv.toNat :: UInt8.ofNat ps.length :: 0 :: (pairsB ps ++ List.replicate (248 - 16 * ps.length) 0) := by
  simp [textN, headB]

theorem bytesN_parts (lv : Int) (ps : Pairs) : bytesN lv ps = 76 :: UInt8.ofNat lv.toNat :: UInt8.ofNat ps.length :: 0 :: (pairsB ps ++ (List.replicate (248 - 16 * ps.length) 0 ++ bytesLE (sumOf (textN lv ps)) 4)) := by
  conv => lhs; unfold bytesN sealOf
  conv => lhs; lhs; rw [textN_parts]
  simp

theorem u8_small (n : Nat) (h : n < 256) : (UInt8.ofNat n).toNat = n := by simp; omega

/-- What was written is read as it was. -/
theorem read_bytes {lv : Int} {ps : Pairs} (h : goodN lv ps = true) (hf : Fits ps) : isN (bytesN lv ps) = true ∧ ((lvIn (bytesN lv ps) : Nat) : Int) = lv ∧ psIn (bytesN lv ps) = ps := by
  obtain ⟨h0, h7, h15⟩ := good_parts h
  have hp := bytesN_parts lv ps
  have e1 : ((lvIn (bytesN lv ps) : Nat) : Int) = lv := by
    unfold lvIn
    rw [hp]
    show (((UInt8.ofNat lv.toNat).toNat : Nat) : Int) = lv
    rw [u8_small _ (by omega)]; omega
  have e2 : cntIn (bytesN lv ps) = ps.length := by
    unfold cntIn
    rw [hp]
    exact u8_small _ (by omega)
  have e3 : psIn (bytesN lv ps) = ps := by
    unfold psIn
    rw [e2, Nat.min_eq_left h15, hp]
    exact pairsIn_pairsB ps _ hf
  refine ⟨?_, e1, e3⟩
  unfold isN
  rw [e1, e3, h, bytesN_length lv ps h15]
  simp

/-- Unlike nodes have unlike bytes. -/
theorem bytesN_inj {a b : Int} {ps qs : Pairs} (ha : goodN a ps = true) (hb : goodN b qs = true) (fa : Fits ps) (fb : Fits qs) : bytesN a ps = bytesN b qs ↔ a = b ∧ ps = qs := by
  constructor
  · intro h
    obtain ⟨_, a1, a2⟩ := read_bytes ha fa
    obtain ⟨_, b1, b2⟩ := read_bytes hb fb
    exact ⟨a1.symm.trans ((congrArg (fun x => ((lvIn x : Nat) : Int)) h).trans b1), a2.symm.trans ((congrArg psIn h).trans b2)⟩
  · rintro ⟨rfl, rfl⟩; rfl

/-- What the parts of a page's text tell, one behind the other. -/
def parseOk (t : List UInt8) : Bool := decide (t.getD 0 0 = 76) && decide (t.getD 3 0 = 0) && decide (cntIn t ≤ 15) && (t.drop (4 + 16 * cntIn t)).all (· == 0)

theorem zeros_of_all (l : List UInt8) (h : l.all (· == 0) = true) : l = List.replicate l.length 0 := by
  rw [List.eq_replicate_iff]
  exact ⟨rfl, fun b hb => by simpa using List.all_eq_true.1 h b hb⟩

theorem list4 (t : List UInt8) (h : 4 ≤ t.length) : t = t.getD 0 0 :: t.getD 1 0 :: t.getD 2 0 :: t.getD 3 0 :: t.drop 4 := by
  match t, h with
  | a :: b :: c :: d :: r, _ => rfl

theorem take_getD (s : List UInt8) (n i : Nat) (h : i < n) : (s.take n).getD i 0 = s.getD i 0 := by
  rw [List.getD_eq_getElem?_getD, List.getD_eq_getElem?_getD, List.getElem?_take, if_pos h]

/-- Read part by part, or held against the bytes of what it tells: the same. -/
theorem parse_iff (s : List UInt8) (h : s.length = 256) (lv : Nat) (ps : Pairs) (hlv : lv = lvIn s) (hps : cntIn s ≤ 15 → ps = pairsIn (cntIn s) (s.drop 4)) :
    (openIs s && (parseOk (s.take 252) && (decide (cntIn s ≤ 15) && goodN lv ps))) = isN s := by
  have hl4 : s.length - 4 = 252 := by omega
  have ht : (s.take 252).length = 252 := by rw [List.length_take]; omega
  have c1 : cntIn (s.take 252) = cntIn s := by unfold cntIn; rw [take_getD _ _ _ (by decide)]
  have l1 : lvIn (s.take 252) = lvIn s := by unfold lvIn; rw [take_getD _ _ _ (by decide)]
  rw [Bool.eq_iff_iff]
  simp only [Bool.and_eq_true, decide_eq_true_eq]
  constructor
  · rintro ⟨ho, hp, hc, hg⟩
    have hps' := hps hc
    have hs := (openIs_sealed s (by omega)).1 ho
    rw [hl4] at hs
    simp only [parseOk, Bool.and_eq_true, decide_eq_true_eq, c1] at hp
    obtain ⟨⟨⟨p0, p3⟩, _⟩, pz⟩ := hp
    have hpsI : psIn s = ps := by rw [psIn, Nat.min_eq_left hc, hps']
    have hlen : ps.length = cntIn s := by rw [hps', pairsIn_length]
    have hz := zeros_of_all _ pz
    rw [List.length_drop, ht] at hz
    have htext : textN lv ps = s.take 252 := by
      rw [textN_parts]
      have e4 := list4 (s.take 252) (by omega)
      have hd : (s.drop 4).take (16 * cntIn s) = ((s.take 252).drop 4).take (16 * cntIn s) := by
        rw [List.drop_take, List.take_take, Nat.min_eq_left (by omega)]
      have hb : pairsB ps = ((s.take 252).drop 4).take (16 * cntIn s) := by
        rw [hps', pairsB_pairsIn _ _ (by rw [List.length_drop]; omega), hd]
      have hsplit : (s.take 252).drop 4 = ((s.take 252).drop 4).take (16 * cntIn s) ++ (s.take 252).drop (4 + 16 * cntIn s) := by
        rw [← List.drop_drop, List.take_append_drop]
      rw [e4, p0, p3, hlen]
      have e1 : UInt8.ofNat ((lv : Int)).toNat = (s.take 252).getD 1 0 := by
        rw [hlv, ← l1]
        unfold lvIn
        simp
      have e2 : UInt8.ofNat (cntIn s) = (s.take 252).getD 2 0 := by
        rw [← c1]
        unfold cntIn
        simp
      rw [e1, e2]
      congr 4
      rw [hb]
      conv => rhs; rw [hsplit]
      congr 1
      rw [hz]
      congr 1
      omega
    unfold isN
    rw [hpsI, ← hlv, hg]
    have hb : bytesN lv ps = s := by rw [bytesN, htext]; exact hs
    rw [hb]
    simp [h]
  · intro hi
    simp only [isN, Bool.and_eq_true, decide_eq_true_eq] at hi
    obtain ⟨⟨_, hg⟩, hb⟩ := hi
    obtain ⟨h0, h7, h15⟩ := good_parts hg
    have hlen : (psIn s).length = min (cntIn s) 15 := by rw [psIn, pairsIn_length]
    have htx : textN (lvIn s) (psIn s) = s.take 252 := by
      have : s = textN (lvIn s) (psIn s) ++ bytesLE (sumOf (textN (lvIn s) (psIn s))) 4 := hb.symm
      conv => rhs; rw [this]
      rw [List.take_left' (textN_length _ _ h15)]
    have hcc : cntIn s = min (cntIn s) 15 := by
      have e : cntIn (s.take 252) = (psIn s).length := by
        rw [← htx, textN_parts]
        exact u8_small _ (by omega)
      rw [c1, hlen] at e
      exact e
    have hc : cntIn s ≤ 15 := by omega
    have hps' : ps = psIn s := by rw [hps hc, psIn, Nat.min_eq_left hc]
    refine ⟨?_, ?_, hc, ?_⟩
    · rw [← hb]; exact seal_opens _
    · simp only [parseOk, Bool.and_eq_true, decide_eq_true_eq, c1]
      rw [← htx, textN_parts]
      refine ⟨⟨⟨rfl, rfl⟩, hc⟩, ?_⟩
      rw [show 4 + 16 * cntIn s = 16 * cntIn s + 1 + 1 + 1 + 1 by omega]
      simp only [List.drop_succ_cons]
      rw [List.drop_left' (by rw [pairsB_length, hlen]; omega)]
      simp
    · rw [hps', hlv]; exact hg

/-- What is read of a page. -/
def lvR (s : List UInt8) : Int := if isN s then lvIn s else 0
def psR (s : List UInt8) : Pairs := if isN s then psIn s else []

end Go.Proofs.YtkgjmejgkffbdaaGreatDoor
