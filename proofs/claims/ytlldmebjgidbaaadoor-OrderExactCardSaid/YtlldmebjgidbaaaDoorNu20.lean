/- Order: Number. -/
import Derived.Test.YtlldmebjgidbaaaDoorDs20
set_option linter.unusedVariables false
namespace Go.Proofs.YtlldmebjgidbaaaDoor
open Go.RowKit

/-- A number that may not be there, as the program tells it. -/
def nvI (o : Option Int) : Int := o.getD 0

theorem dst_le (t : List UInt8) (v : Nat) (h : dst true 0 t = some v) : v ≤ 9223372036854775808 := by
  by_cases h0 : t = []
  · subst h0
    simp only [dst, Option.some.injEq] at h
    omega
  · exact (dst_true h0 h).2

theorem dstR_le (l : List UInt8) : (dstR l).1 ≤ 9223372036854775808 := by
  unfold dstR
  split
  · simp
  · rename_i far h
    exact dst_le _ _ h

theorem pl_minus (m : List UInt8) : pl (45 :: m) = 45 :: pl m := pl_plain m (by decide)

theorem pl_head (c : UInt8) (m : List UInt8) (h : c ≠ 45) : ∃ a r, pl (c :: m) = a :: r ∧ a.toNat ≠ 45 := by
  rw [pl_cons]
  split
  · rename_i hw
    have hw' := of_decide_eq_true hw
    have e2 : (c :: m).getD 2 0 = m.getD 1 0 := by simp [List.getD]
    rw [e2] at hw'
    refine ⟨_, _, rfl, ?_⟩
    generalize m.getD 1 0 = x at hw' ⊢
    have : (UInt8.ofNat (x.toNat - 96)).toNat = x.toNat - 96 := by simp; omega
    rw [this]
    omega
  · exact ⟨c, _, rfl, fun e => h (UInt8.toNat_inj.1 e)⟩

/-- Number, out of what the calls answer. -/
theorem num_of (l : List UInt8) (bl ok : Bool) (far : Nat) (hb : Lib.hasPrefix l [45] = bl) (hd : dstR (Lib.trimPrefix l [45]) = (far, ok)) :
    numP (pl l) = if ok = false ∨ (bl = true ∧ far = 0) ∨ (bl = false ∧ far = 9223372036854775808) then none else if bl = true then some (-(far : Int)) else some (far : Int) := by
  cases l with
  | nil =>
    have : dstR (Lib.trimPrefix [] [45]) = (0, false) := by
      unfold dstR Lib.trimPrefix Lib.hasPrefix
      simp [dst, pl_nil]
    rw [this] at hd
    simp only [Prod.mk.injEq] at hd
    rw [pl_nil, if_pos (Or.inl hd.2.symm)]
    rfl
  | cons c m =>
    by_cases hc : c = 45
    · subst hc
      have h1 : Lib.hasPrefix (45 :: m) [45] = true := by simp [Lib.hasPrefix, List.isPrefixOf]
      have h2 : Lib.trimPrefix (45 :: m) [45] = m := by unfold Lib.trimPrefix; rw [if_pos h1]; rfl
      rw [h1] at hb
      rw [h2] at hd
      subst hb
      rw [pl_minus]
      unfold numP
      simp only
      rw [if_pos (by decide)]
      unfold dstR at hd
      cases hs : dst true 0 (pl m) with
      | none =>
        rw [hs] at hd
        simp only [Prod.mk.injEq] at hd
        rw [if_pos (Or.inl hd.2.symm)]
        cases pl m <;> rfl
      | some f =>
        rw [hs] at hd
        simp only [Prod.mk.injEq] at hd
        obtain ⟨rfl, rfl⟩ := hd
        cases hm : m with
        | nil =>
          rw [if_pos (Or.inl (by simp))]
          rw [pl_nil]
        | cons x y =>
          have hp : pl m ≠ [] := fun e => by rw [pl_nil_iff] at e; rw [e] at hm; exact absurd hm (by simp)
          rw [← hm]
          cases hpm : pl m with
          | nil => exact absurd hpm hp
          | cons a b =>
            simp only
            by_cases hf : f = 0
            · rw [if_pos hf, if_pos (Or.inr (Or.inl ⟨by trivial, hf⟩))]
            · rw [if_neg hf, if_neg, if_pos (by trivial)]
              rintro (k | k | k)
              · rw [hm] at k; exact absurd k (by simp)
              · exact hf k.2
              · exact absurd k.1 (by simp)
    · have h1 : Lib.hasPrefix (c :: m) [45] = false := by
        have : (45 == c) = false := beq_eq_false_iff_ne.2 (fun e => hc e.symm)
        simp [Lib.hasPrefix, List.isPrefixOf, this]
      have h2 : Lib.trimPrefix (c :: m) [45] = c :: m := by unfold Lib.trimPrefix; rw [if_neg (by rw [h1]; simp)]
      rw [h1] at hb
      rw [h2] at hd
      subst hb
      obtain ⟨a, r, e1, e2⟩ := pl_head c m hc
      unfold dstR at hd
      rw [e1] at hd ⊢
      unfold numP
      simp only
      rw [if_neg e2]
      cases hs : dst true 0 (a :: r) with
      | none =>
        rw [hs] at hd
        simp only [Prod.mk.injEq] at hd
        rw [if_pos (Or.inl hd.2.symm)]
      | some f =>
        rw [hs] at hd
        simp only [Prod.mk.injEq] at hd
        obtain ⟨rfl, rfl⟩ := hd
        simp only
        by_cases hf : f = 9223372036854775808
        · rw [if_pos hf, if_pos (Or.inr (Or.inr ⟨by trivial, hf⟩))]
        · rw [if_neg hf, if_neg, if_neg (by simp)]
          rintro (k | k | k)
          · exact absurd k (by simp)
          · exact absurd k.1 (by simp)
          · exact hf k.2

theorem conv_far (far : Nat) (h : far < 9223372036854775808) : wrap64 (far : Int) = (far : Int) := by unfold wrap64; omega
theorem conv_neg (far : Nat) (h : far ≤ 9223372036854775808) : wrap64 (IntKind.u64.wrap (-(far : Int))) = -(far : Int) := by rw [IntKind.wrap_u64]; unfold wrap64; omega

set_option maxRecDepth 1000000 in
set_option maxHeartbeats 4000000 in
theorem oNumber (l : List UInt8) (hl : l.length ≤ 1099511627776) (w : World) :
    Calls Tryd.prog 17 #[.string ⟨l.toArray⟩] w fun e w' => e = .returned (.tuple #[.int .i64 (nvI (numP (pl l))), .bool (numP (pl l)).isSome]) ∧ KeptIn (· < w.heap.size) w w' := by
  obtain ⟨bl, hpre⟩ : ∃ bl, Lib.hasPrefix l [45] = bl := ⟨_, rfl⟩
  obtain ⟨ds, htr⟩ : ∃ ds, Lib.trimPrefix l [45] = ds := ⟨_, rfl⟩
  obtain ⟨far, ok, hd⟩ : ∃ far ok, dstR ds = (far, ok) := ⟨_, _, rfl⟩
  have hle : ds.length ≤ 1099511627776 := by
    rw [← htr]; unfold Lib.trimPrefix
    split
    · rw [List.length_drop]; omega
    · exact hl
  have C := oDist ds hle w
  have hfar := dstR_le ds
  rw [hd] at C hfar
  have N := num_of l bl ok far hpre (by rw [htr]; exact hd)
  simp only at hfar C
  have C := Lib.hid C
  rw [N]
  clear N hd hle hl
  cases ok with
  | false =>
    rw [if_pos (Or.inl rfl)]
    clear hfar
    go_enter Tryd.func17, Tryd.ntmps17
    go_wp2_with fail
    refine (tCut l w).mono ?_
    rintro e _ ⟨rfl, rfl⟩
    rw [hpre, htr]
    go_wp2_with fail
    refine C.out.mono ?_
    rintro e w2 ⟨rfl, hK⟩
    have hK := Lib.hid hK
    clear C
    go_wp2_with fail
    go_ret2
    first | exact ⟨rfl, hK.out⟩ | exact ⟨congrArg (fun z => Ending.returned (Value.tuple #[.int .i64 z, .bool true])) kn, hK.out⟩
  | true =>
    cases bl with
    | true =>
      by_cases h0 : far = 0
      · subst h0
        rw [if_pos (Or.inr (Or.inl ⟨rfl, rfl⟩))]
        clear hfar
        go_enter Tryd.func17, Tryd.ntmps17
        go_wp2_with fail
        refine (tCut l w).mono ?_
        rintro e _ ⟨rfl, rfl⟩
        rw [hpre, htr]
        go_wp2_with fail
        refine C.out.mono ?_
        rintro e w2 ⟨rfl, hK⟩
        have hK := Lib.hid hK
        clear C
        go_wp2_with fail
        go_ret2
        first | exact ⟨rfl, hK.out⟩ | exact ⟨congrArg (fun z => Ending.returned (Value.tuple #[.int .i64 z, .bool true])) kn, hK.out⟩
      · rw [if_neg (by rintro (k | k | k); exact absurd k (by simp); exact h0 k.2; exact absurd k.1 (by simp)), if_pos rfl]
        have k7 : ((far : Int) == 0) = false := beq_eq_false_iff_ne.2 (by omega)
        have k9 : decide ((far : Int) = 0) = false := decide_eq_false (by omega)
        have kn := conv_neg far hfar
        clear hfar h0
        go_enter Tryd.func17, Tryd.ntmps17
        go_wp2_with fail
        refine (tCut l w).mono ?_
        rintro e _ ⟨rfl, rfl⟩
        rw [hpre, htr]
        go_wp2_with fail
        refine C.out.mono ?_
        rintro e w2 ⟨rfl, hK⟩
        have hK := Lib.hid hK
        clear C
        go_wp2_with fail
        go_ret2
        first | exact ⟨rfl, hK.out⟩ | exact ⟨congrArg (fun z => Ending.returned (Value.tuple #[.int .i64 z, .bool true])) kn, hK.out⟩
    | false =>
      by_cases h0 : far = 9223372036854775808
      · subst h0
        rw [if_pos (Or.inr (Or.inr ⟨rfl, rfl⟩))]
        clear hfar
        go_enter Tryd.func17, Tryd.ntmps17
        go_wp2_with fail
        refine (tCut l w).mono ?_
        rintro e _ ⟨rfl, rfl⟩
        rw [hpre, htr]
        go_wp2_with fail
        refine C.out.mono ?_
        rintro e w2 ⟨rfl, hK⟩
        have hK := Lib.hid hK
        clear C
        go_wp2_with fail
        go_ret2
        first | exact ⟨rfl, hK.out⟩ | exact ⟨congrArg (fun z => Ending.returned (Value.tuple #[.int .i64 z, .bool true])) kn, hK.out⟩
      · rw [if_neg (by rintro (k | k | k); exact absurd k (by simp); exact absurd k.1 (by simp); exact h0 k.2), if_neg (by simp)]
        have k7 : ((far : Int) == 9223372036854775808) = false := beq_eq_false_iff_ne.2 (by omega)
        have k9 : decide ((far : Int) = 9223372036854775808) = false := decide_eq_false (by omega)
        have kn := conv_far far (by omega)
        clear hfar h0
        go_enter Tryd.func17, Tryd.ntmps17
        go_wp2_with fail
        refine (tCut l w).mono ?_
        rintro e _ ⟨rfl, rfl⟩
        rw [hpre, htr]
        go_wp2_with fail
        refine C.out.mono ?_
        rintro e w2 ⟨rfl, hK⟩
        have hK := Lib.hid hK
        clear C
        go_wp2_with fail
        go_ret2
        first | exact ⟨rfl, hK.out⟩ | exact ⟨congrArg (fun z => Ending.returned (Value.tuple #[.int .i64 z, .bool true])) kn, hK.out⟩

end Go.Proofs.YtlldmebjgidbaaaDoor
