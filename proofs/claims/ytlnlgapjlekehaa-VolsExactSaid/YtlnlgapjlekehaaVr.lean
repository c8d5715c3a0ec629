/- Volumes: the volume of a pair. -/
import Derived.Test.YtlnlgapjlekehaaVp
set_option linter.unusedVariables false
namespace Go.Proofs.Ytlnlgapjlekehaa
open Go.RowKit

/-- What a pair says: the program's way. -/
def decP (k x : Nat) : Vol := ⟨((k % 4294967296 : Nat) : Int), ((x / 65536 % 65536 : Nat) : Int), ((x % 65536 : Nat) : Int), decide (x / 4294967296 % 2 = 1), ((x / 1099511627776 : Nat) : Int)⟩
/-- The document's way. -/
def decR (k x : Nat) : Vol := ⟨((k % 4294967296 : Nat) : Int), ((x / 65536 % 65536 : Nat) : Int), ((x % 65536 : Nat) : Int), decide (x / 4294967296 % 256 = 1), ((x / 1099511627776 : Nat) : Int)⟩
def IsV (k x : Nat) (v : Vol) : Prop := GoodV v ∧ keyV v = k ∧ valV v = x
instance (k x : Nat) (v : Vol) : Decidable (IsV k x v) := by unfold IsV; infer_instance
/-- The volume of a pair, if there is one. -/
def readVol (k x : Nat) : Option Vol := if IsV k x (decP k x) then some (decP k x) else none

theorem dec_of {k x : Nat} {v : Vol} (h : IsV k x v) : decP k x = v ∧ decR k x = v := by
  obtain ⟨hg, rfl, rfl⟩ := h
  obtain ⟨a, b, c, d, hv, ha1, ha, hb, hc, hd⟩ := good_nats hg
  obtain ⟨pin, hpin⟩ : ∃ pin, v.pin = pin := ⟨_, rfl⟩
  rw [hpin] at hv
  subst hv
  have hk : keyV ⟨(a : Int), (b : Int), (c : Int), pin, (d : Int)⟩ = 4294967296 + a := by unfold keyV; simp only; omega
  have hx : valV ⟨(a : Int), (b : Int), (c : Int), pin, (d : Int)⟩ = c + b * 65536 + d * 1099511627776 + (if pin = true then 4294967296 else 0) := by unfold valV; simp only; omega
  rw [hk, hx]
  have h1 : (4294967296 + a) % 4294967296 = a := by omega
  cases pin with
  | true =>
    rw [if_pos rfl]
    have h2 : (c + b * 65536 + d * 1099511627776 + 4294967296) / 65536 % 65536 = b := by omega
    have h3 : (c + b * 65536 + d * 1099511627776 + 4294967296) % 65536 = c := by omega
    have h4 : (c + b * 65536 + d * 1099511627776 + 4294967296) / 1099511627776 = d := by omega
    have h5 : (c + b * 65536 + d * 1099511627776 + 4294967296) / 4294967296 % 2 = 1 := by omega
    have h6 : (c + b * 65536 + d * 1099511627776 + 4294967296) / 4294967296 % 256 = 1 := by omega
    unfold decP decR
    rw [h1, h2, h3, h4, h5, h6]
    exact ⟨rfl, rfl⟩
  | false =>
    rw [if_neg Bool.false_ne_true, Nat.add_zero]
    have h2 : (c + b * 65536 + d * 1099511627776) / 65536 % 65536 = b := by omega
    have h3 : (c + b * 65536 + d * 1099511627776) % 65536 = c := by omega
    have h4 : (c + b * 65536 + d * 1099511627776) / 1099511627776 = d := by omega
    have h5 : (c + b * 65536 + d * 1099511627776) / 4294967296 % 2 = 0 := by omega
    have h6 : (c + b * 65536 + d * 1099511627776) / 4294967296 % 256 = 0 := by omega
    unfold decP decR
    rw [h1, h2, h3, h4, h5, h6]
    exact ⟨rfl, rfl⟩

theorem readVol_of {k x : Nat} {v : Vol} (h : IsV k x v) : readVol k x = some v := by
  unfold readVol
  rw [(dec_of h).1, if_pos h]
theorem readVol_iff {k x : Nat} {v : Vol} : readVol k x = some v ↔ IsV k x v := by
  refine ⟨fun h => ?_, readVol_of⟩
  unfold readVol at h
  split at h
  · rename_i hi
    cases h
    exact hi
  · cases h
theorem readVol_pair {v : Vol} (h : GoodV v) : readVol (keyV v) (valV v) = some v := readVol_of ⟨h, rfl, rfl⟩
theorem readVol_no {k x : Nat} (h : ¬ IsV k x (decP k x)) : readVol k x = none := by
  unfold readVol
  rw [if_neg h]
theorem readVol_no' {k x : Nat} (h : ¬ IsV k x (decR k x)) : readVol k x = none := by
  cases hr : readVol k x with
  | none => rfl
  | some v =>
    have hi := readVol_iff.1 hr
    rw [(dec_of hi).2] at h
    exact absurd hi h

def vol0 : Vol := ⟨0, 0, 0, false, 0⟩
def ReadS (w : World) (o : Option Vol) (e : Ending) (w' : World) : Prop :=
  e = .returned (.tuple #[volV (o.getD vol0), .bool o.isSome]) ∧ KeptIn (· < w.heap.size) w w'

/-- The three boxes of Read. -/
theorem vr_boxes (w : World) (k x : Nat) (v : Vol) : ∀ V, KeptIn (· < (((w.alloc (.cells #[.int .u64 (k : Int), .int .u64 (x : Int)] 38)).alloc (.cells #[.int .i64 0, .int .i64 0, .int .i64 0, .bool false, .int .i64 0] 60)).alloc (.cells #[.int .i64 v.id, .int .i64 v.size, .int .i64 v.root, .bool v.pin, .int .i64 v.frm] 60)).heap.size) (((w.alloc (.cells #[.int .u64 (k : Int), .int .u64 (x : Int)] 38)).alloc (.cells #[.int .i64 0, .int .i64 0, .int .i64 0, .bool false, .int .i64 0] 60)).alloc (.cells #[.int .i64 v.id, .int .i64 v.size, .int .i64 v.root, .bool v.pin, .int .i64 v.frm] 60)) V →
    BoxP w.heap.size k x V ∧ BoxV (w.heap.size + 1) vol0 V ∧ BoxV (w.heap.size + 1 + 1) v V ∧ KeptIn (· < w.heap.size) w V ∧ w.heap.size + 1 + 1 + 1 ≤ V.heap.size := by
  intro V hk
  have h1 := BoxP.new w k x
  obtain ⟨W1, hW1⟩ : ∃ W1, w.alloc (.cells #[.int .u64 (k : Int), .int .u64 (x : Int)] 38) = W1 := ⟨_, rfl⟩
  have hk1 : KeptIn (· < w.heap.size) w W1 := by rw [← hW1]; exact (KeptIn.refl _ w).alloc (fun _ h => h) _
  have hs1 : W1.heap.size = w.heap.size + 1 := by rw [← hW1]; simp
  rw [hW1] at h1 hk
  have h2 : BoxV W1.heap.size vol0 (W1.alloc (.cells #[.int .i64 0, .int .i64 0, .int .i64 0, .bool false, .int .i64 0] 60)) := BoxV.new W1 vol0
  obtain ⟨W2, hW2⟩ : ∃ W2, W1.alloc (.cells #[.int .i64 0, .int .i64 0, .int .i64 0, .bool false, .int .i64 0] 60) = W2 := ⟨_, rfl⟩
  have hk2 : KeptIn (· < W1.heap.size) W1 W2 := by rw [← hW2]; exact (KeptIn.refl _ W1).alloc (fun _ h => h) _
  have hs2 : W2.heap.size = w.heap.size + 1 + 1 := by rw [← hW2, World.size_alloc, hs1]
  rw [hW2] at h2 hk
  have h3 := BoxV.new W2 v
  obtain ⟨W3, hW3⟩ : ∃ W3, W2.alloc (.cells #[.int .i64 v.id, .int .i64 v.size, .int .i64 v.root, .bool v.pin, .int .i64 v.frm] 60) = W3 := ⟨_, rfl⟩
  have hk3 : KeptIn (· < W2.heap.size) W2 W3 := by rw [← hW3]; exact (KeptIn.refl _ W2).alloc (fun _ h => h) _
  have hs3 : W3.heap.size = w.heap.size + 1 + 1 + 1 := by rw [← hW3, World.size_alloc, hs2]
  rw [hW3] at h3 hk
  have k3 := hk3.go hk
  have k2 := hk2.go k3
  rw [hs2] at h3
  rw [hs1] at h2
  exact ⟨h1.kept k2 h1.lt, h2.kept k3 h2.lt, h3.kept hk h3.lt, hk1.go k2, by rw [← hs3]; exact hk.size⟩

theorem dec_nats (k x : Nat) (hk : k < 18446744073709551616) (hx : x < 18446744073709551616) (n : Nat) (hn : n = 2 ∨ n = 256) : ∃ (a b c d : Nat) (pin : Bool), (⟨((k % 4294967296 : Nat) : Int), ((x / 65536 % 65536 : Nat) : Int), ((x % 65536 : Nat) : Int), decide (x / 4294967296 % n = 1), ((x / 1099511627776 : Nat) : Int)⟩ : Vol) = ⟨(a : Int), (b : Int), (c : Int), pin, (d : Int)⟩ ∧
    (k : Int) % 4294967296 = (a : Int) ∧ (x : Int) / 65536 % 65536 = (b : Int) ∧ (x : Int) % 65536 = (c : Int) ∧ ((x : Int) / 4294967296 % (n : Int) == 1) = pin ∧ (x : Int) / 1099511627776 = (d : Int) ∧ (a : Int) ≤ 4294967295 ∧ (b : Int) ≤ 65535 ∧ (c : Int) ≤ 65535 ∧ (d : Int) ≤ 16777215 := by
  refine ⟨k % 4294967296, x / 65536 % 65536, x % 65536, x / 1099511627776, decide (x / 4294967296 % n = 1), rfl, by omega, by omega, by omega, ?_, by omega, by omega, by omega, by omega, by omega⟩
  rw [Bool.eq_iff_iff, beq_iff_eq, decide_eq_true_iff]
  rcases hn with rfl | rfl <;> omega


set_option maxHeartbeats 1000000 in
theorem vsRead (k x : Nat) (hk : k < 18446744073709551616) (hx : x < 18446744073709551616) (w : World) : Calls Try.prog 24 #[pairV (k, x)] w (ReadS w (readVol k x)) := by
  unfold pairV ReadS
  simp only
  obtain ⟨a, b, c, d, pin, hv, e1, e2, e3, e4, e5, l1, l2, l3, l4⟩ := dec_nats k x hk hx 2 (.inl rfl)
  have hdp : decP k x = ⟨(a : Int), (b : Int), (c : Int), pin, (d : Int)⟩ := hv
  have e4' : ((x : Int) / 4294967296 % 2 == 1) = pin := e4
  have HB := Lib.hid (vr_boxes w k x ⟨(a : Int), (b : Int), (c : Int), pin, (d : Int)⟩)
  have HP := Lib.hid fun W => vsPair ⟨(a : Int), (b : Int), (c : Int), pin, (d : Int)⟩ W
  unfold volV PairS at HP
  simp only at HP HB
  clear hv e4
  by_cases hi : IsV k x ⟨(a : Int), (b : Int), (c : Int), pin, (d : Int)⟩
  · rw [readVol_of hi]
    have hg := hi.1
    have hkk := hi.2.1
    have hxx := hi.2.2
    rw [if_pos hg, hkk, hxx] at HP
    clear hi hg hkk hxx hdp
    unfold pairV at HP
    simp only [Option.getD_some, Option.isSome_some]
    go_enter Try.func24, Try.ntmps24
    go_wp2_with (go_at_call 21; refine (HP.out _).mono ?_; rintro e V ⟨rfl, hk9⟩; obtain ⟨b1, b2, b3, b4, b5⟩ := HB.out (V.alloc (.cells #[.int .u64 k, .int .u64 x] 38)) (hk9.alloc (fun _ h => h) _); have y0 := b1.c0; have y1 := b1.c1; have z0 := b3.c0; have z1 := b3.c1; have z2 := b3.c2; have z3 := b3.c3; have z4 := b3.c4; have q0 := b2.c0; have q1 := b2.c1; have q2 := b2.c2; have q3 := b2.c3; have q4 := b2.c4; have r0 := b2.fr 0; have r1 := b2.fr 1; have r2 := b2.fr 2; have r3 := b2.fr 3; have r4 := b2.fr 4; have HBB := Lib.hid (And.intro b1 (And.intro b2 (And.intro b3 (And.intro b4 b5)))); clear b1 b2 b3 b4 b5 hk9)
    refine bodyPost_ret (results_vol_tmp rfl _ _ (w.heap.size + 1) _ rfl (HBB.out.2.1.set ⟨(a : Int), (b : Int), (c : Int), pin, (d : Int)⟩)) rfl ?_
    exact ⟨rfl, ((((HBB.out.2.2.2.1.setCell (p := ⟨w.heap.size + 1, 0, none⟩) (by simp) _).setCell (p := ⟨w.heap.size + 1, 1, none⟩) (by simp) _).setCell (p := ⟨w.heap.size + 1, 2, none⟩) (by simp) _).setCell (p := ⟨w.heap.size + 1, 3, none⟩) (by simp) _).setCell (p := ⟨w.heap.size + 1, 4, none⟩) (by simp) _⟩
  · rw [readVol_no (by rw [hdp]; exact hi)]
    simp only [Option.getD_none, Option.isSome_none]
    by_cases hg : GoodV ⟨(a : Int), (b : Int), (c : Int), pin, (d : Int)⟩
    · rw [if_pos hg] at HP
      obtain ⟨K, hK⟩ : ∃ K, keyV ⟨(a : Int), (b : Int), (c : Int), pin, (d : Int)⟩ = K := ⟨_, rfl⟩
      obtain ⟨X, hX⟩ : ∃ X, valV ⟨(a : Int), (b : Int), (c : Int), pin, (d : Int)⟩ = X := ⟨_, rfl⟩
      rw [hK, hX] at HP
      have hne : ¬ (K = k ∧ X = x) := fun h => hi ⟨hg, hK.trans h.1, hX.trans h.2⟩
      unfold pairV at HP
      clear hi hg hdp hK hX
      by_cases hKk : K = k
      · subst hKk
        have hXx : ¬ X = x := fun h => hne ⟨rfl, h⟩
        have n1 : ((X : Int) == (x : Int)) = false := by rw [beq_eq_false_iff_ne]; omega
        have n2 : (X == x) = false := by rw [beq_eq_false_iff_ne]; exact hXx
        have n3 : ¬ (X : Int) = (x : Int) := by omega
        clear hne
        go_enter Try.func24, Try.ntmps24
        go_wp2_with (go_at_call 21; refine (HP.out _).mono ?_; rintro e V ⟨rfl, hk9⟩; obtain ⟨b1, b2, b3, b4, b5⟩ := HB.out (V.alloc (.cells #[.int .u64 K, .int .u64 X] 38)) (hk9.alloc (fun _ h => h) _); have y0 := b1.c0; have y1 := b1.c1; have z0 := b3.c0; have z1 := b3.c1; have z2 := b3.c2; have z3 := b3.c3; have z4 := b3.c4; have q0 := b2.c0; have q1 := b2.c1; have q2 := b2.c2; have q3 := b2.c3; have q4 := b2.c4; have r0 := b2.fr 0; have r1 := b2.fr 1; have r2 := b2.fr 2; have r3 := b2.fr 3; have r4 := b2.fr 4; have HBB := Lib.hid (And.intro b1 (And.intro b2 (And.intro b3 (And.intro b4 b5)))); clear b1 b2 b3 b4 b5 hk9)
        refine bodyPost_ret (results_vol_tmp rfl _ _ (w.heap.size + 1) _ rfl (HBB.out.2.1.set vol0)) rfl ?_
        exact ⟨rfl, ((((HBB.out.2.2.2.1.setCell (p := ⟨w.heap.size + 1, 0, none⟩) (by simp) _).setCell (p := ⟨w.heap.size + 1, 1, none⟩) (by simp) _).setCell (p := ⟨w.heap.size + 1, 2, none⟩) (by simp) _).setCell (p := ⟨w.heap.size + 1, 3, none⟩) (by simp) _).setCell (p := ⟨w.heap.size + 1, 4, none⟩) (by simp) _⟩
      · have n1 : ((K : Int) == (k : Int)) = false := by rw [beq_eq_false_iff_ne]; omega
        have n2 : (K == k) = false := by rw [beq_eq_false_iff_ne]; exact hKk
        have n3 : ¬ (K : Int) = (k : Int) := by omega
        clear hne
        go_enter Try.func24, Try.ntmps24
        go_wp2_with (go_at_call 21; refine (HP.out _).mono ?_; rintro e V ⟨rfl, hk9⟩; obtain ⟨b1, b2, b3, b4, b5⟩ := HB.out (V.alloc (.cells #[.int .u64 K, .int .u64 X] 38)) (hk9.alloc (fun _ h => h) _); have y0 := b1.c0; have y1 := b1.c1; have z0 := b3.c0; have z1 := b3.c1; have z2 := b3.c2; have z3 := b3.c3; have z4 := b3.c4; have q0 := b2.c0; have q1 := b2.c1; have q2 := b2.c2; have q3 := b2.c3; have q4 := b2.c4; have r0 := b2.fr 0; have r1 := b2.fr 1; have r2 := b2.fr 2; have r3 := b2.fr 3; have r4 := b2.fr 4; have HBB := Lib.hid (And.intro b1 (And.intro b2 (And.intro b3 (And.intro b4 b5)))); clear b1 b2 b3 b4 b5 hk9)
        refine bodyPost_ret (results_vol_tmp rfl _ _ (w.heap.size + 1) _ rfl (HBB.out.2.1.set vol0)) rfl ?_
        exact ⟨rfl, ((((HBB.out.2.2.2.1.setCell (p := ⟨w.heap.size + 1, 0, none⟩) (by simp) _).setCell (p := ⟨w.heap.size + 1, 1, none⟩) (by simp) _).setCell (p := ⟨w.heap.size + 1, 2, none⟩) (by simp) _).setCell (p := ⟨w.heap.size + 1, 3, none⟩) (by simp) _).setCell (p := ⟨w.heap.size + 1, 4, none⟩) (by simp) _⟩
    · rw [if_neg hg] at HP
      unfold pairV at HP
      clear hi hg hdp
      go_enter Try.func24, Try.ntmps24
      go_wp2_with (go_at_call 21; refine (HP.out _).mono ?_; rintro e V ⟨rfl, hk9⟩; obtain ⟨b1, b2, b3, b4, b5⟩ := HB.out (V.alloc (.cells #[.int .u64 0, .int .u64 0] 38)) (hk9.alloc (fun _ h => h) _); have y0 := b1.c0; have y1 := b1.c1; have z0 := b3.c0; have z1 := b3.c1; have z2 := b3.c2; have z3 := b3.c3; have z4 := b3.c4; have q0 := b2.c0; have q1 := b2.c1; have q2 := b2.c2; have q3 := b2.c3; have q4 := b2.c4; have r0 := b2.fr 0; have r1 := b2.fr 1; have r2 := b2.fr 2; have r3 := b2.fr 3; have r4 := b2.fr 4; have HBB := Lib.hid (And.intro b1 (And.intro b2 (And.intro b3 (And.intro b4 b5)))); clear b1 b2 b3 b4 b5 hk9)
      refine bodyPost_ret (results_vol_tmp rfl _ _ (w.heap.size + 1) _ rfl (HBB.out.2.1.set vol0)) rfl ?_
      exact ⟨rfl, ((((HBB.out.2.2.2.1.setCell (p := ⟨w.heap.size + 1, 0, none⟩) (by simp) _).setCell (p := ⟨w.heap.size + 1, 1, none⟩) (by simp) _).setCell (p := ⟨w.heap.size + 1, 2, none⟩) (by simp) _).setCell (p := ⟨w.heap.size + 1, 3, none⟩) (by simp) _).setCell (p := ⟨w.heap.size + 1, 4, none⟩) (by simp) _⟩

end Go.Proofs.Ytlnlgapjlekehaa
