/- Package castle's Open, and the reference's. -/
import Derived.Test.YtdogchpeimgkjaaDoorCast
set_option linter.unusedVariables false
namespace Go.Proofs.YtdogchpeimgkjaaDoor
open Go.RowKit

theorem takeR_head (p q : List UInt8) (hq : q.length = 4) : takeR (((p ++ q).length : Int) - 4) (p ++ q) false = (p, q, false) := by
  unfold takeR
  rw [List.length_append, hq]
  split
  · have : p.length = 0 := by omega
    rw [List.length_eq_zero_iff.1 this]; rfl
  · rw [if_neg (by omega), show (((p.length + 4 : Nat) : Int) - 4).toNat = p.length from by omega, List.take_left', List.drop_left']
    all_goals rfl

theorem takeR_tail (q : List UInt8) (hq : q.length = 4) : takeR 4 q false = (q, [], false) := by
  unfold takeR
  rw [if_neg (by decide), if_neg (by rw [hq]; decide), show (4 : Int).toNat = q.length from hq.symm, List.take_length, List.drop_length]

theorem takeR_short (l : List UInt8) (h : l.length < 4) : takeR ((l.length : Int) - 4) l false = ([], l, false) := by
  unfold takeR
  rw [if_pos (by omega)]
theorem takeR_short' (l : List UInt8) (h : l.length < 4) : takeR 4 l false = ([], [], true) := by
  unfold takeR
  rw [if_neg (by decide), if_pos (by omega)]

set_option maxHeartbeats 400000 in
set_option maxRecDepth 100000 in
theorem castleOpenLong (p q : List UInt8) (w : World) (hT : Tab w) (hq : q.length = 4) (hl : p.length ≤ 65536) :
    Calls Tryd.prog 21 #[.string ⟨(p ++ q).toArray⟩] w fun e w' => e = .returned (.tuple #[.string ⟨(if numLE q = sumOf p then p else []).toArray⟩, .bool (decide (numLE q = sumOf p))]) ∧ KeptIn (· < w.heap.size) w w' := by
  generalize hov : (if numLE q = sumOf p then p else []) = o
  generalize hbv : decide (numLE q = sumOf p) = is
  have HOV := Lib.hid hov
  have HBV := Lib.hid hbv
  clear hov hbv
  obtain ⟨r, hr⟩ : ∃ r, r = w.heap.size := ⟨_, rfl⟩
  have hle : ((p ++ q).length : Int) ≤ 65540 := by rw [List.length_append, hq]; omega
  have hh := takeR_head p q hq
  generalize hll : p ++ q = l at *
  have HT := Lib.hid hT
  have HL := Lib.hid hl
  have HH := Lib.hid hh
  have HE := Lib.hid hle
  have HQ := Lib.hid hq
  clear hT hl hll hh hq
  go_enter Tryd.func21, Tryd.ntmps21
  go_wp2_with fail
  refine (ofW _ w).mono ?_
  rintro e w1 ⟨rfl, r1, k1⟩
  replace r1 : IsR w.heap.size l false w1 := r1
  have hX1 : ∀ k, k < w.heap.size → k < w1.heap.size := k1.lt (fun _ h => h)
  rw [← hr] at r1 ⊢
  have hnr : ¬ (r < w.heap.size) := by omega
  clear hr
  go_wp2_with fail
  refine (takeW r _ _ ((l.length : Int) - 4) _ r1 (by have := HE.out; omega)).mono ?_
  rintro e w2 ⟨rfl, r2, k2⟩
  replace k2 := k1.trans (k2.mono (fun k h => by show k ≠ r; intro e; exact hnr (e ▸ h)))
  clear r1 k1 hX1
  rw [HH.out] at r2 ⊢
  replace r2 : IsR r q false w2 := r2
  go_wp2_with fail
  refine (getW (· < w.heap.size) r _ _ 4 _ r2 hnr (k2.lt (fun _ h => h)) (by have := HQ.out; omega)).mono ?_
  rintro e w3 ⟨rfl, r3, k3⟩
  replace k3 := k2.trans k3
  have hT3 := HT.out.kept k3 HT.out.lt
  clear r2 k2
  rw [show (min (max (4 : Int) 1) 8) = 4 from by decide, takeR_tail q HQ.out] at r3 ⊢
  replace r3 : IsR r [] false w3 := r3
  have hs := sumOf_lt p
  have hn : numLE q < 4294967296 := by have := numLE_lt q; rwa [HQ.out] at this
  obtain ⟨n, hne⟩ : ∃ n, numLE q = n := ⟨_, rfl⟩
  rw [show ((q, ([] : List UInt8), false) : List UInt8 × List UInt8 × Bool).1 = q from rfl, hne]
  rw [hne] at hn
  have R3 := Lib.hid r3
  have K3 := Lib.hid k3
  have T3 := Lib.hid hT3
  rw [hne] at HOV HBV
  clear r3 k3 hT3 hne
  have n0 : (0 : Int) ≤ (n : Int) := by omega
  have hsum := fun W (h : Tab W) => castleSum p W h (by have := HL.out; omega)
  generalize sumOf p = v at *
  have HS := Lib.hid hsum
  clear hsum
  have v0 : (0 : Int) ≤ (v : Int) := by omega
  have v1 : (v : Int) ≤ 4294967295 := by omega
  by_cases he : n = v
  · subst he
    obtain rfl : p = o := by have := HOV.out; rwa [if_pos rfl] at this
    obtain rfl : true = is := by have := HBV.out; rwa [decide_eq_true rfl] at this
    go_wp2_with fail
    refine (endW r _ _ _ R3.out).mono ?_
    rintro e _ ⟨rfl, rfl⟩
    rw [show endOf [] false = 0 from by decide]
    go_wp2_with fail
    refine (HS.out _ T3.out).mono ?_
    rintro e _ ⟨rfl, rfl⟩
    go_wp2
    go_ret2
    exact ⟨rfl, K3.out⟩
  · have he' : (((n : Int)) == (v : Int)) = false := by
      rw [beq_eq_false_iff_ne]; omega
    obtain rfl : [] = o := by have := HOV.out; rwa [if_neg he] at this
    obtain rfl : false = is := by have := HBV.out; rwa [decide_eq_false he] at this
    clear he
    go_wp2_with fail
    refine (endW r _ _ _ R3.out).mono ?_
    rintro e _ ⟨rfl, rfl⟩
    rw [show endOf [] false = 0 from by decide]
    go_wp2_with fail
    refine (HS.out _ T3.out).mono ?_
    rintro e _ ⟨rfl, rfl⟩
    go_wp2
    go_ret2
    exact ⟨rfl, K3.out⟩

set_option maxHeartbeats 400000 in
set_option maxRecDepth 100000 in
theorem castleOpenShort (l : List UInt8) (w : World) (hT : Tab w) (h4 : l.length < 4) :
    Calls Tryd.prog 21 #[.string ⟨l.toArray⟩] w fun e w' => e = .returned (.tuple #[.string ⟨#[]⟩, .bool false]) ∧ KeptIn (· < w.heap.size) w w' := by
  obtain ⟨r, hr⟩ : ∃ r, r = w.heap.size := ⟨_, rfl⟩
  have hle : (l.length : Int) ≤ 4 := by omega
  have H1 := Lib.hid (takeR_short l h4)
  have H2 := Lib.hid (takeR_short' l h4)
  have H4 := Lib.hid h4
  have HT := Lib.hid hT
  clear hT h4
  go_enter Tryd.func21, Tryd.ntmps21
  go_wp2_with fail
  refine (ofW _ w).mono ?_
  rintro e w1 ⟨rfl, r1, k1⟩
  replace r1 : IsR w.heap.size l false w1 := r1
  rw [← hr] at r1 ⊢
  have hnr : ¬ (r < w.heap.size) := by omega
  clear hr
  go_wp2_with fail
  refine (takeW r _ _ ((l.length : Int) - 4) _ r1 (by have := H4.out; omega)).mono ?_
  rintro e w2 ⟨rfl, r2, k2⟩
  replace k2 := k1.trans (k2.mono (fun k h => by show k ≠ r; intro e; exact hnr (e ▸ h)))
  clear r1 k1
  rw [H1.out] at r2 ⊢
  replace r2 : IsR r l false w2 := r2
  go_wp2_with fail
  refine (getW (· < w.heap.size) r _ _ 4 _ r2 hnr (k2.lt (fun _ h => h)) (by have := H4.out; omega)).mono ?_
  rintro e w3 ⟨rfl, r3, k3⟩
  replace k3 := k2.trans k3
  have hT3 := HT.out.kept k3 HT.out.lt
  clear r2 k2
  rw [show (min (max (4 : Int) 1) 8) = 4 from by decide, H2.out] at r3 ⊢
  replace r3 : IsR r [] true w3 := r3
  rw [show numLE (([], ([] : List UInt8), true) : List UInt8 × List UInt8 × Bool).1 = 0 from rfl]
  have R3 := Lib.hid r3
  have K3 := Lib.hid k3
  have T3 := Lib.hid hT3
  clear r3 k3 hT3
  go_wp2_with fail
  refine (endW r _ _ _ R3.out).mono ?_
  rintro e _ ⟨rfl, rfl⟩
  rw [show endOf [] true = 3 from by decide]
  go_wp2
  go_ret2
  exact ⟨rfl, K3.out⟩

theorem openIs_append (p q : List UInt8) (hq : q.length = 4) : openIs (p ++ q) = decide (numLE q = sumOf p) := by
  unfold openIs
  rw [List.length_append, hq, decide_eq_true (by omega), Bool.true_and, Nat.add_sub_cancel, List.take_left', List.drop_left']
  all_goals rfl
theorem openOf_append (p q : List UInt8) (hq : q.length = 4) : openOf (p ++ q) = if numLE q = sumOf p then p else [] := by
  unfold openOf
  rw [openIs_append p q hq, List.length_append, hq, Nat.add_sub_cancel, List.take_left' rfl]
  by_cases h : numLE q = sumOf p <;> simp [h]
theorem openIs_short (l : List UInt8) (h : l.length < 4) : openIs l = false := by
  unfold openIs
  rw [decide_eq_false (by omega)]
  rfl
theorem openOf_short (l : List UInt8) (h : l.length < 4) : openOf l = [] := by
  unfold openOf
  rw [openIs_short l h]
  rfl

theorem castleOpen (l : List UInt8) (w : World) (hT : Tab w) (hl : l.length ≤ 65536) :
    Calls Tryd.prog 21 #[.string ⟨l.toArray⟩] w fun e w' => e = .returned (.tuple #[.string ⟨(openOf l).toArray⟩, .bool (openIs l)]) ∧ KeptIn (· < w.heap.size) w w' := by
  by_cases h : l.length < 4
  · rw [openIs_short l h, openOf_short l h]
    exact castleOpenShort l w hT h
  · have hq : (l.drop (l.length - 4)).length = 4 := by rw [List.length_drop]; omega
    have hp : (l.take (l.length - 4)).length ≤ 65536 := by rw [List.length_take]; omega
    have hl' : l = l.take (l.length - 4) ++ l.drop (l.length - 4) := (List.take_append_drop ..).symm
    generalize l.take (l.length - 4) = p at *
    generalize l.drop (l.length - 4) = q at *
    subst hl'
    rw [openIs_append p q hq, openOf_append p q hq]
    exact castleOpenLong p q w hT hq hp

end Go.Proofs.YtdogchpeimgkjaaDoor
