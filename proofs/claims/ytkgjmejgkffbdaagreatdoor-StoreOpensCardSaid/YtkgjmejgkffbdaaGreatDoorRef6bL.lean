import Derived.Test.YtkgjmejgkffbdaaGreatDoorRef6L
import Derived.Test.YtkgjmejgkffbdaaGreatDoorM9
import Derived.Deep.AppendLies
import Derived.Deep.Cut
/- The reference of layer 6 (tierceref06): Bytes. -/
set_option linter.unusedVariables false
namespace Go.Proofs.YtkgjmejgkffbdaaGreatDoor
open Go.RowKit

/-- A boxed head, and what was there. -/
structure Zh (w : World) (B : Nat) (h : Hd) (W : World) : Prop where
  box : BoxH B h W
  kept : KeptIn (· < B) w W
section
variable {w W V : World} {B : Nat} {h : Hd}
theorem Zh.call (k : KeptIn (· < W.heap.size) W V) (z : Zh w B h W) : Zh w B h V := ⟨z.box.kept k z.box.lt, z.kept.trans (k.mono fun _ hk => Nat.lt_trans hk z.box.lt)⟩
theorem Zh.alloc (z : Zh w B h W) (o : Obj) : Zh w B h (W.alloc o) := z.call ((KeptIn.refl _ _).alloc (fun _ h => h) o)
theorem Zh.drew (z : Zh w B h W) : Zh w B h W.drew := z.call ((KeptIn.refl _ _).drew)
theorem Has.call {g : Nat} {u : List UInt8} (k : KeptIn (· < W.heap.size) W V) (z : Has W g u) : Has V g u := fun j b hj => by
  obtain ⟨h1, h2⟩ := z j b hj
  have hg : g < W.heap.size := by
    rcases Nat.lt_or_ge g W.heap.size with h | h
    · exact h
    · simp [World.cell?, Array.getElem?_eq_none h] at h1
  refine ⟨(World.cell?_of_block (a := ⟨g, j, none⟩) (k.block g hg)).trans h1, ?_⟩
  have := k.block g hg
  unfold World.frozen? at h2 ⊢
  rw [this]
  exact h2
theorem has1 (W : World) (c : UInt8) : Has (W.alloc (.cells #[.int .u8 c.toNat] 5)) W.heap.size [c] := by
  intro j b hj
  have hb := heap_alloc_new W (.cells #[.int .u8 c.toNat] 5)
  refine ⟨?_, frozen_of_row _ _ _ _ _ hb⟩
  rw [cell_of_row _ _ j _ _ _ hb]
  match j, hj with
  | 0, hj => simp at hj; subst hj; rfl
end

/-- A number's bytes by the reference. -/
def rbL (n : Nat) (size : Int) : List UInt8 := bytesLE n (min (max size 1) 8).toNat
theorem rbytesL (n : Nat) (size : Int) (hn : n < 18446744073709551616) (w : World) :
    Calls Tryz.prog 61 #[.int .u64 n, .int .i64 size] w fun e w' => e = .returned (.string ⟨(rbL n size).toArray⟩) ∧ KeptIn (· < w.heap.size) w w' := rbytes n size w hn
theorem rbL_2 (n : Nat) : (rbL n 2).length = 2 := bytesLE_length n 2
theorem rbL_4 (n : Nat) : (rbL n 4).length = 4 := bytesLE_length n 4

set_option maxHeartbeats 2000000 in
set_option maxRecDepth 100000 in
theorem r6Bytes (h : Hd) (hg : goodH h = true) (w : World) :
    Calls Tryz.prog 34 #[headV h] w fun e w' => e = .returned (.string ⟨(bytesH h).toArray⟩) ∧ KeptIn (· < w.heap.size) w w' := by
  obtain ⟨h1, h2, h3, h4, h5, h6, h7, h8, h9, h10⟩ : h.can := of_decide_eq_true hg
  obtain ⟨g, r, s, f, c⟩ := h
  simp only at h1 h2 h3 h4 h5 h6 h7 h8 h9 h10
  obtain ⟨r, rfl⟩ := Int.eq_ofNat_of_zero_le h3
  obtain ⟨s, rfl⟩ := Int.eq_ofNat_of_zero_le (show 0 ≤ s by omega)
  obtain ⟨f, rfl⟩ := Int.eq_ofNat_of_zero_le (show 0 ≤ f by omega)
  obtain ⟨c, rfl⟩ := Int.eq_ofNat_of_zero_le (show 0 ≤ c by omega)
  have z1 : (0 : Int) ≤ (r : Int) := by omega
  have z2 : (0 : Int) ≤ (s : Int) := by omega
  have z3 : (0 : Int) ≤ (f : Int) := by omega
  have z4 : (0 : Int) ≤ (c : Int) := by omega
  obtain ⟨out, hout⟩ : ∃ out, bytesH ⟨g, r, s, f, c⟩ = out := ⟨_, rfl⟩
  rw [hout]
  have HO := Lib.hid hout
  have CB := Lib.hid fun v size (hv : v < 18446744073709551616) V => rbytesL v size hv V
  have v1 : g < 18446744073709551616 := by omega
  have v2 : r < 18446744073709551616 := by omega
  have v3 : s < 18446744073709551616 := by omega
  have v4 : f < 18446744073709551616 := by omega
  have l1 := rbL_4 g
  have l2 := rbL_2 r
  have l3 := rbL_2 s
  have l4 := rbL_2 f
  have zz := Zh.mk (BoxH.new w ⟨g, r, s, f, c⟩) ((KeptIn.refl _ w).alloc (fun _ h => h) (.cells #[.int .u64 g, .int .i64 r, .int .i64 s, .int .i64 f, .int .i64 c] 39))
  obtain ⟨B, hB⟩ : ∃ B, w.heap.size = B := ⟨_, rfl⟩
  obtain ⟨W0, hW0⟩ : ∃ W0, w.alloc (.cells #[.int .u64 g, .int .i64 r, .int .i64 s, .int .i64 f, .int .i64 c] 39) = W0 := ⟨_, rfl⟩
  unfold headV
  simp only [hW0, hB] at zz ⊢
  have HW := Lib.hid (And.intro hB hW0)
  clear hg h1 h3 h5 h7 h9 hout hB hW0
  obtain ⟨q3, hq3⟩ : ∃ q, rbL s 2 = q := ⟨_, rfl⟩
  obtain ⟨q4, hq4⟩ : ∃ q, rbL f 2 = q := ⟨_, rfl⟩
  rw [hq3] at l3
  rw [hq4] at l4
  have HQ := Lib.hid (And.intro hq3 hq4)
  have HT : Hid ((⟨#[84]⟩ : ByteArray) ++ ⟨#[UInt8.ofNat c]⟩ ++ ⟨q3.toArray⟩ ++ ⟨q4.toArray⟩ = ⟨(84 :: UInt8.ofNat c :: (q3 ++ q4)).toArray⟩) := Lib.hid (by
    rw [show (⟨#[84]⟩ : ByteArray) = ⟨[84].toArray⟩ from rfl, show (⟨#[UInt8.ofNat c]⟩ : ByteArray) = ⟨[UInt8.ofNat c].toArray⟩ from rfl, joinB, joinB, joinB]
    simp)
  clear hq3 hq4
  go_enter Tryz.func34, Tryz.ntmps34
  go_upto_region 1 with fail
  rw [HW.out.1, HW.out.2]
  go_cut [3] from 4 (fun v wx => v = .string ⟨(84 :: UInt8.ofNat c :: (q3 ++ q4)).toArray⟩ ∧ Hid (Zh w B ⟨g, r, s, f, c⟩ wx))
  case first =>
    have ec : ((UInt8.ofNat c).toNat : Int) = (c : Int) := by have := byte_of c (by omega); omega
    have HH1 : Hid (∀ V : World, Has (V.alloc (.cells #[.int .u8 c] 5)) V.heap.size [UInt8.ofNat c]) := Lib.hid fun V => by
      have := has1 V (UInt8.ofNat c)
      rwa [ec] at this
    have hA := (HH1.out W0).call ((KeptIn.refl _ _).drew)
    have zD := zz.drew
    have zA := (zz.alloc (.cells #[.int .u8 c] 5)).drew
    have a3 := zz.box.c2; have a4 := zz.box.c3; have a5 := zz.box.c4
    have b3 := zA.box.c2; have b4 := zA.box.c3; have b5 := zA.box.c4
    have hcv := conv_back [UInt8.ofNat c] _ 1 _ hA
    simp only [List.length_cons, List.length_nil, Nat.reduceAdd] at hcv a3 a4 a5 b3 b4 b5
    have w1 : IntKind.u8.wrap (c : Int) = (c : Int) := by rw [IntKind.wrap_u8]; omega
    have w2 : IntKind.u64.wrap (s : Int) = (s : Int) := by rw [IntKind.wrap_u64]; omega
    have w3 : IntKind.u64.wrap (f : Int) = (f : Int) := by rw [IntKind.wrap_u64]; omega
    clear ec
    go_region_law (first
      | (go_simp; go_at_call 61; refine (CB.out _ _ (by assumption) _).mono ?_; rintro e V ⟨rfl, hk⟩; (first | rw [HQ.out.1] | rw [HQ.out.2]); have zV : Zh w B ⟨g, r, s, f, c⟩ V := Zh.call hk (by assumption); have zVA := zV.alloc (.cells #[.int .u8 c] 5); have d3 := zV.box.c2; have d4 := zV.box.c3; have d5 := zV.box.c4; have e3 := zVA.box.c2; have e4 := zVA.box.c3; have e5 := zVA.box.c4; have hHA := HH1.out V; have hcV := conv_back [UInt8.ofNat c] _ 1 _ hHA; simp only [List.length_cons, List.length_nil, Nat.reduceAdd] at hcV d3 d4 d5 e3 e4 e5; try (have hh := Has.call hk (by assumption); have hcv2 := conv_back [UInt8.ofNat c] _ 1 _ hh; simp only [List.length_cons, List.length_nil, Nat.reduceAdd] at hcv2)))
    all_goals
      go_wp2_with fail
      go_meet
      case rel => exact ⟨congrArg Value.string HT.out, Lib.hid (by assumption)⟩
  case rest =>
    obtain ⟨rfl, HZ⟩ := hcut
    clear zz
    obtain ⟨q1, hq1⟩ : ∃ q, rbL g 4 = q := ⟨_, rfl⟩
    obtain ⟨q2, hq2⟩ : ∃ q, rbL r 2 = q := ⟨_, rfl⟩
    obtain ⟨T, hT⟩ : ∃ T, 84 :: UInt8.ofNat c :: (q3 ++ q4) = T := ⟨_, rfl⟩
    rw [hq1] at l1
    rw [hq2] at l2
    rw [hT]
    have lT : T.length = 6 := by rw [← hT]; simp [l3, l4]
    have HQ2 := Lib.hid (And.intro hq1 hq2)
    have htx : T ++ q1 ++ q2 = textH ⟨g, r, s, f, c⟩ := by
      rw [← hT, ← hq1, ← hq2, ← HQ.out.1, ← HQ.out.2]
      simp [textH, rbL]
      rfl
    have HTX : Hid ((⟨T.toArray⟩ : ByteArray) ++ ⟨q1.toArray⟩ ++ ⟨q2.toArray⟩ = ⟨(textH ⟨g, r, s, f, c⟩).toArray⟩) := Lib.hid (by rw [joinB, joinB, htx])
    have CK := Lib.hid fun v size (hv : v < 18446744073709551616) V (hk : KeptIn (· < wc.heap.size) wc V) => (rbytesL v size hv V).mono (R' := fun e w' => e = .returned (.string ⟨(rbL v size).toArray⟩) ∧ KeptIn (· < wc.heap.size) wc w') fun e w' ⟨he, h⟩ => ⟨he, hk.trans (h.mono fun k h => Nat.lt_of_lt_of_le h hk.size)⟩
    have CL := Lib.hid fun V (hk : KeptIn (· < wc.heap.size) wc V) => (refSeal (textH ⟨g, r, s, f, c⟩) V (by rw [textH_length]; decide)).mono (R' := fun e w' => e = .returned (.string ⟨out.toArray⟩) ∧ KeptIn (· < wc.heap.size) wc w') fun e w' ⟨he, h⟩ => ⟨by rw [he, ← HO.out]; rfl, hk.trans (h.mono fun k h => Nat.lt_of_lt_of_le h hk.size)⟩
    have c0 := HZ.out.box.c0; have c1 := HZ.out.box.c1
    simp only at c0 c1
    have hx := HZ.out.box.lt
    have w4 : IntKind.u64.wrap (r : Int) = (r : Int) := by rw [IntKind.wrap_u64]; omega
    have g1 : ¬ 9223372036854775807 < T.length + 4 := by omega
    have g2 : ¬ 9223372036854775807 < T.length + 4 + 2 := by omega
    have g3 : ¬ 9223372036854775807 < T.length + 6 := by omega
    have g4 : decide (9223372036854775807 < T.length + 4) = false := decide_eq_false g1
    have g5 : decide (9223372036854775807 < T.length + 4 + 2) = false := decide_eq_false g2
    have g6 : decide (9223372036854775807 < T.length + 6) = false := decide_eq_false g3
    clear hT hq1 hq2 htx CB
    go_wp2_with fail
    go_region_held3 (fun w' => w'.cell? ⟨B, 0, none⟩ = some (.int .u64 g) ∧ w'.cell? ⟨B, 1, none⟩ = some (.int .i64 r))
      (first
        | exact ⟨c0, c1⟩
        | exact ⟨(World.cell?_of_block (a := ⟨B, 0, none⟩) (hk.block _ hx)).trans c0, (World.cell?_of_block (a := ⟨B, 1, none⟩) (hk.block _ hx)).trans c1⟩)
      (first
        | (go_at_call 61; refine (CK.out _ _ (by assumption) _ hk).mono ?_; rintro e w' ⟨rfl, hk⟩; (first | rw [HQ2.out.1] | rw [HQ2.out.2]))
        | (go_at_call 61; refine (CK.out _ _ (by assumption) _ ((KeptIn.refl _ _).drew)).mono ?_; rintro e w' ⟨rfl, hk⟩; (first | rw [HQ2.out.1] | rw [HQ2.out.2]))
        | (go_at_call 62; rw [HTX.out]; refine (CL.out _ hk).mono ?_; rintro e w' ⟨rfl, hk⟩))
    have HK := Lib.hid (HZ.out.kept.trans (hk.mono fun k h => Nat.lt_trans h hx))
    clear hk
    go_wp2_with fail
    go_ret
    exact ⟨rfl, HK.out⟩

end Go.Proofs.YtkgjmejgkffbdaaGreatDoor
