/- Order: Bytes, and the runes of bytes. -/
import Derived.Test.YtlldmebjgidbaaaDoorNu20
set_option linter.unusedVariables false
namespace Go.Proofs.YtlldmebjgidbaaaDoor
open Go.RowKit

def bvS (o : Option (List UInt8)) : List UInt8 := o.getD []

theorem dot_num (r : Nat) (h : 10240 ≤ r ∧ r ≤ 10495) : IntKind.u8.wrap (wrap32 ((r : Int) - 10240)) = (((UInt8.ofNat (r - 10240)).toNat : Nat) : Int) := by
  rw [IntKind.wrap_u8]
  unfold wrap32
  simp
  omega

theorem bytS_loop (l : List UInt8) (h1 : l ≠ [45]) (h2 : l ≠ []) : bytS l = unr l := by unfold bytS; rw [if_neg h1, if_neg h2]

set_option maxRecDepth 1000000 in
set_option maxHeartbeats 4000000 in
theorem oBytes (l : List UInt8) (hl : l.length ≤ 1099511627776) (w : World) :
    Calls Tryd.prog 18 #[.string ⟨l.toArray⟩] w fun e w' => e = .returned (.tuple #[.string ⟨(bvS (bytS l)).toArray⟩, .bool (bytS l).isSome]) ∧ KeptIn (· < w.heap.size) w w' := by
  by_cases h0 : l = [45]
  · subst h0
    go_enter Tryd.func18, Tryd.ntmps18
    go_wp2_with fail
    go_ret2
    exact ⟨rfl, .refl _ _⟩
  · have hb0 : (l == [45]) = false := beq_eq_false_iff_ne.2 h0
    go_enter Tryd.func18, Tryd.ntmps18
    go_wp2_with fail
    go_loopw [] (fun wr => ∃ (pos : Nat) (acc : List UInt8) (V : World), V = wr ∧ Hid (Lib.IsBuilderF 100 5 w.heap.size w.heap.size (Lib.byteCells acc) V ∧ Itr (w.heap.size + 1) l pos V ∧ Below w.heap.size w V ∧ unr l = (unr (l.drop pos)).map (acc ++ ·) ∧ acc.length ≤ pos ∧ pos ≤ l.length)) (fun wr => l.length - wr.iterPos (w.heap.size + 1))
    case atStart =>
      refine ⟨0, [], _, rfl, (Lib.IsBuilderF.of (Lib.fresh_isBuilder 100 5 w)).alloc _, ?_, ((Below.refl _ w).alloc (Nat.le_refl _) _).alloc (by simp) _, by simp, by simp, by simp⟩
      have := World.iter_heap (w.alloc (.cells #[.pointer none, .slice none 0 0] 100)) ⟨l.toArray⟩ 0
      unfold Itr
      rw [show (w.alloc (.cells #[.pointer none, .slice none 0 0] 100)).heap.size = w.heap.size + 1 by simp] at this
      exact this
    case round =>
      obtain ⟨pos, acc, V, rfl, H⟩ := hrel
      obtain ⟨hB, hI, hK, hD, hal, hpl⟩ := H.out
      clear H
      have hsz : w.heap.size + 1 < V.heap.size := hI.lt
      by_cases hp : pos < l.length
      · obtain ⟨r, q, hd⟩ : ∃ r q, Lib.decodeL (l.drop pos) = (r, q) := ⟨_, _, rfl⟩
        have hnx := hI.next hp hd
        have hne : l.drop pos ≠ [] := fun e => by have := congrArg List.length e; simp at this; omega
        obtain ⟨R1, R2⟩ := unr_run (l.drop pos) hne
        rw [hd] at R1 R2
        simp only at R1 R2
        have hI2 := Lib.hid (hI.on (pos + q))
        have hB2 := Lib.hid (hB.iterAt hI (pos + q))
        have hK2 := Lib.hid (Lib.below_iterAt hK (k := w.heap.size + 1) (by omega) ⟨l.toArray⟩ (pos + q))
        have hS2 : Hid (w.heap.size ≤ (V.iterAt (w.heap.size + 1) ⟨l.toArray⟩ (pos + q)).heap.size) := by
          refine Lib.hid ?_
          rw [Lib.iterAt_size]
          omega
        have hM : Hid (V.iterPos (w.heap.size + 1) = pos) := Lib.hid hI.pos_eq
        obtain ⟨W, hW⟩ : ∃ W, V.iterAt (w.heap.size + 1) ⟨l.toArray⟩ (pos + q) = W := ⟨_, rfl⟩
        rw [hW] at hnx hI2 hB2 hK2 hS2
        clear hW hne hd hB hI hK hsz
        by_cases k : 10240 ≤ r ∧ r ≤ 10495
        · obtain ⟨e1, e2, e3⟩ := R1 k
          subst e1
          have hx := dot_num r k
          have d1 : decide ((r : Int) < 10240) = false := decide_eq_false (by omega)
          have d2 : decide ((r : Int) > 10495) = false := decide_eq_false (by omega)
          have d3 : decide ((10495 : Int) < (r : Int)) = false := d2
          obtain ⟨x, hxx⟩ : ∃ x, UInt8.ofNat (r - 10240) = x := ⟨_, rfl⟩
          rw [hxx] at hx e3
          have hD2 : Hid (unr l = (unr (l.drop (pos + 3))).map ((acc ++ [x]) ++ ·)) := by
            refine Lib.hid ?_
            rw [hD, e3, List.drop_drop]
            simp [Function.comp_def, Option.map_map]
          have hal2 : Hid (acc.length ≤ pos ∧ pos + 3 ≤ l.length) := Lib.hid ⟨hal, by rw [List.length_drop] at e2; omega⟩
          clear R1 R2 e3 hD hxx k hal e2 hpl
          have hp := Lib.hid hp
          go_wp2_with fail
          refine (Tryd.bByte w.heap.size w.heap.size (Lib.byteCells acc) _ _ hB2.out (by rw [Lib.byteCells_length]; have := hal2.out; omega) hS2.out).mono ?_
          rintro e W1 ⟨rfl, h1, b1, k1⟩
          have h1 := Lib.hid h1
          have b1 := Lib.hid b1
          have k1 := Lib.hid k1
          go_wp2_with fail
          go_roundw
          case rel =>
            refine ⟨pos + 3, acc ++ [x], _, rfl, ?_, k1.out.iter hI2.out (by omega), hK2.out.trans b1.out, hD2.out, by have := hal2.out; simp; omega, hal2.out.2⟩
            rw [Lib.byteCells_append]
            exact Or.inr h1.out
          case measure =>
            have h2 := k1.out.iter hI2.out (by omega)
            have e3 : W1.iterPos (w.heap.size + 1) = pos + 3 := Itr.pos_eq (l := l) h2
            rw [e3, hM.out]
            have := hp.out
            omega
        · have R := R2 k
          have hD2 : Hid (bytS l = none) := by
            refine Lib.hid ?_
            rw [bytS_loop l h0 (fun e => by rw [e] at hp; simp at hp), hD, R]
            rfl
          have hK3 : Hid (KeptIn (· < w.heap.size) w W) := Lib.hid (.of_below hK2.out (fun _ h => h))
          clear R1 R2 R hD hpl hal
          by_cases k2 : (r : Int) < 10240
          · have d1 : decide ((r : Int) < 10240) = true := decide_eq_true k2
            clear k k2
            go_wp2_with fail
            go_ret2
            rw [hD2.out]
            exact ⟨rfl, hK3.out⟩
          · have d1 : decide ((r : Int) < 10240) = false := decide_eq_false k2
            have d3 : decide ((10495 : Int) < (r : Int)) = true := decide_eq_true (by omega)
            have d2 : decide ((r : Int) > 10495) = true := d3
            clear k k2
            go_wp2_with fail
            go_ret2
            rw [hD2.out]
            exact ⟨rfl, hK3.out⟩
      · have hnx := hI.stop hp
        have hD2 : Hid (unr l = some acc) := by
          refine Lib.hid ?_
          rw [hD, List.drop_eq_nil_of_le (by omega)]
          simp [unr]
        clear hI hD
        have hB := Lib.hid hB
        have hK := Lib.hid hK
        have hal := Lib.hid hal
        have hpl := Lib.hid hpl
        have hsz := Lib.hid hsz
        go_wp2_with fail
        refine (Tryd.Builder_String_any_k w.heap.size w.heap.size acc _ hB.out (by have := hsz.out; omega)).mono ?_
        rintro e W1 ⟨rfl, _, b1, _⟩
        have b1 := Lib.hid b1
        go_wp2_with fail
        go_ret2
        refine ⟨?_, .of_below (hK.out.trans b1.out) (fun _ h => h)⟩
        cases hc : l with
        | nil =>
          rw [hc] at hD2
          have := hD2.out
          simp only [unr, Option.some.injEq] at this
          subst this
          rfl
        | cons c m =>
          rw [← hc, bytS_loop l h0 (by rw [hc]; simp), hD2.out]
          rw [hc]
          rfl

theorem rs_take (l : List UInt8) (j : Nat) (x : UInt8) (h : l[j]? = some x) : rs (l.take (j + 1)) = rs (l.take j) ++ rs3 x := by
  rw [List.take_add_one, h, rs_app]
  simp [rs]

theorem str_at (l : List UInt8) (j : Nat) (x : UInt8) (h : l[j]? = some x) (hj : j < l.length) : l[j] = x := by
  rw [List.getElem?_eq_getElem hj] at h
  exact Option.some.inj h

theorem str_byte (l : List UInt8) (j : Nat) (x : UInt8) (h : l[j]? = some x) : ∀ hj : j < (⟨l.toArray⟩ : ByteArray).size, (⟨l.toArray⟩ : ByteArray)[j]'hj = x := by
  intro hj
  have hj' : j < l.length := by simpa [ByteArray.size] using hj
  have := str_at l j x h hj'
  rw [← this]
  rfl

theorem rune_num (x : UInt8) : wrap32 (10240 + wrap32 ((x.toNat : Nat) : Int)) = 10240 + (x.toNat : Int) ∧ wrap32 (10240 + ((x.toNat : Nat) : Int)) = 10240 + (x.toNat : Int) ∧ -2147483648 ≤ 10240 + (x.toNat : Int) ∧ 10240 + (x.toNat : Int) ≤ 2147483647 := by
  have := b8_lt x
  unfold wrap32
  refine ⟨?_, ?_, ?_, ?_⟩ <;> omega

set_option maxRecDepth 1000000 in
set_option maxHeartbeats 4000000 in
theorem oRunes (l : List UInt8) (hl : l.length ≤ 1099511627776) (w : World) :
    Calls Tryd.prog 24 #[.string ⟨l.toArray⟩] w fun e w' => e = .returned (.string ⟨(runesOf l).toArray⟩) ∧ KeptIn (· < w.heap.size) w w' := by
  by_cases h0 : l = []
  · subst h0
    go_enter Tryd.func24, Tryd.ntmps24
    go_wp2_with fail
    go_ret
    exact ⟨rfl, .refl _ _⟩
  · have hb0 : (l == []) = false := beq_eq_false_iff_ne.2 h0
    have hb1 : l.isEmpty = false := by cases l with | nil => exact absurd rfl h0 | cons a b => rfl
    go_enter Tryd.func24, Tryd.ntmps24
    go_wp2_with fail
    go_loopw [9] (fun i wr => ∃ (j : Nat) (V : World), V = wr ∧ i = .int .i64 (j : Int) ∧ Hid (j ≤ l.length ∧ Lib.IsBuilderF 100 5 w.heap.size w.heap.size (Lib.byteCells (rs (l.take j))) V ∧ Below w.heap.size w V ∧ w.heap.size < V.heap.size)) (fun i _ => l.length - (RowKit.intOf i).toNat)
    case atStart =>
      exact ⟨0, _, rfl, rfl, by simp, Lib.IsBuilderF.of (Lib.fresh_isBuilder 100 5 w), (Below.refl _ w).alloc (Nat.le_refl _) _, by simp⟩
    case round =>
      obtain ⟨j, V, rfl, rfl, H⟩ := hrel
      obtain ⟨hj, hB, hK, hS⟩ := H.out
      clear H
      by_cases hp : j < l.length
      · have hx : l[j]? = some l[j] := List.getElem?_eq_getElem hp
        obtain ⟨x, hxx⟩ : ∃ x, l[j] = x := ⟨_, rfl⟩
        rw [hxx] at hx
        have hbx := str_byte l j x hx
        have d1 : decide ((j : Int) < (l.length : Int)) = true := decide_eq_true (by omega)
        obtain ⟨n1, n2, n3, n4⟩ := rune_num x
        have hw : wrap64 ((j : Int) + 1) = ((j + 1 : Nat) : Int) := by unfold wrap64; omega
        have hr := Lib.hid (rs_take l j x hx)
        have hB := Lib.hid hB
        have hK := Lib.hid hK
        have hS := Lib.hid hS
        have hlen : Hid ((Lib.byteCells (rs (l.take j))).length + 4 ≤ 140737488355328) := by
          refine Lib.hid ?_
          rw [Lib.byteCells_length, rs_len, List.length_take]
          omega
        have n3 := Lib.hid n3
        have n4 := Lib.hid n4
        clear hxx hx
        go_wp2_with fail
        try rw [n1]
        refine (Tryd.bRune w.heap.size w.heap.size _ (10240 + ((x.toNat : Nat) : Int)) n3.out n4.out _ hB.out hlen.out (by have := hS.out; omega)).mono ?_
        rintro e W1 ⟨rfl, h1, b1, k1⟩
        have hB2 : Hid (Lib.IsBuilderF 100 5 w.heap.size w.heap.size (Lib.byteCells (rs (l.take (j + 1)))) W1) := by
          refine Lib.hid ?_
          rw [hr.out, Lib.byteCells_append, ← rs3_rune, Lib.byteCells_encodeRune]
          exact Or.inr h1
        have b2 := Lib.hid (hK.out.trans b1)
        have hS2 : Hid (w.heap.size < W1.heap.size) := Lib.hid (Nat.lt_of_lt_of_le hS.out b1.size)
        clear h1 b1 k1
        go_wp2_with fail
        go_roundw
        case rel =>
          exact ⟨j + 1, _, rfl, rfl, by omega, hB2.out, b2.out, hS2.out⟩
        case measure =>
          simp only [RowKit.intOf]
          omega
      · have d1 : decide ((j : Int) < (l.length : Int)) = false := decide_eq_false (by omega)
        obtain rfl : j = l.length := by omega
        rw [List.take_length] at hB
        have hB := Lib.hid hB
        have hK := Lib.hid hK
        have hS := Lib.hid hS
        go_wp2_with fail
        refine (Tryd.Builder_String_any_k w.heap.size w.heap.size (rs l) _ hB.out (by have := hS.out; omega)).mono ?_
        rintro e W1 ⟨rfl, _, b1, _⟩
        have b1 := Lib.hid b1
        go_wp2_with fail
        go_ret
        refine ⟨?_, .of_below (hK.out.trans b1.out) (fun _ h => h)⟩
        unfold runesOf
        rw [if_neg h0]
        rfl

end Go.Proofs.YtlldmebjgidbaaaDoor
