import Derived.Test.YtkgjmejgkffbdaaGreatDoorSgL
import Derived.Test.YtkgjmejgkffbdaaGreatDoorM9
/- A store's Open. -/
set_option linter.unusedVariables false
namespace Go.Proofs.YtkgjmejgkffbdaaGreatDoor
open Go.RowKit

theorem stOpenNil (w : World) : Calls Tryz.prog 29 #[.pointer none] w fun e w' => e = .returned (.tuple #[.pointer none, .int .i64 2]) ∧ w = w' := by
  go_enter Tryz.func29, Tryz.ntmps29
  go_wp2
  go_ret2
  exact ⟨rfl, rfl⟩

theorem stOpenSmall (d m s b N : Nat) (S : List (List UInt8)) (M : Int → Option (List UInt8)) (w : World) (hD : IsD d m s b N S M w) (n : Nat) (hn : min (S.length / 16) 512 = n) (h2 : n < 2) :
    Calls Tryz.prog 29 #[.pointer (some ⟨d, 0, none⟩)] w fun e w' => e = .returned (.tuple #[.pointer none, .int .i64 3]) ∧ w = w' := by
  have CP := Lib.hid (stPagesOf d m s b N S M w hD n hn)
  have n2 : (n : Int) < 2 := by omega
  clear hD hn h2
  go_enter Tryz.func29, Tryz.ntmps29
  go_wp2_with (go_at_call 36; refine CP.out.mono ?_; rintro e w' ⟨rfl, rfl⟩)
  go_ret2
  exact ⟨rfl, rfl⟩

/-- What Open hands back, where there is a head. -/
def OpenS (d m s b N : Nat) (p : Pw) (S : List (List UInt8)) (M : Int → Option (List UInt8)) (h : Hd) (a n : Nat) (w : World) (e : Ending) (w' : World) : Prop :=
  ∃ (st pg : Nat), e = .returned (.tuple #[.pointer (some ⟨st, 0, none⟩), .int .i64 0]) ∧ Sv ⟨d, m, s, b, st, pg⟩ N p S M h a (noP n) w' ∧ KeptIn (· < w.heap.size) w w' ∧ w.heap.size ≤ st ∧ w.heap.size ≤ pg

theorem newH_at (a b : List UInt8) (o : Hd) (i : Int) (h : newH a b = (o, i, true)) : goodH o = true ∧ ∃ j : Nat, i = (j : Int) ∧ j ≤ 1 := by
  have hgood : ∀ u, isH u = true → goodH (headIn u) = true := fun u hu => by
    simp only [isH, Bool.and_eq_true] at hu
    exact hu.2.1
  unfold newH at h
  split at h
  · rename_i h1
    simp only [Prod.mk.injEq, and_true] at h
    simp only [Bool.and_eq_true] at h1
    obtain ⟨rfl, rfl⟩ := h
    exact ⟨hgood _ h1.1, 0, rfl, by omega⟩
  · split at h
    · rename_i h2
      simp only [Prod.mk.injEq, and_true] at h
      obtain ⟨rfl, rfl⟩ := h
      exact ⟨hgood _ h2, 1, rfl, Nat.le_refl _⟩
    · cases h

theorem sub_two (a b : List UInt8) (ha : a.length = 16) (hb : b.length = 16) : (⟨(a ++ b).toArray⟩ : ByteArray).extract 0 16 = ⟨a.toArray⟩ ∧ (⟨(a ++ b).toArray⟩ : ByteArray).extract 16 32 = ⟨b.toArray⟩ := by
  rw [Lib.extract_eq, Lib.extract_eq]
  constructor
  · show (⟨(((a ++ b).drop 0).take (16 - 0)).toArray⟩ : ByteArray) = _
    rw [List.drop_zero, List.take_left' ha]
  · show (⟨(((a ++ b).drop 16).take (32 - 16)).toArray⟩ : ByteArray) = _
    rw [List.drop_left' ha, List.take_of_length_le (by omega)]

set_option maxHeartbeats 1000000 in
set_option maxRecDepth 100000 in
theorem stOpenSome (d m s b N : Nat) (p : Pw) (S : List (List UInt8)) (M : Int → Option (List UInt8)) (w : World) (hD : IsD d m s b N S M w) (hP : IsP m p w) (hon : p.on = true) (hT : Tab w) (n : Nat) (hn : min (S.length / 16) 512 = n) (h2 : 2 ≤ n) (o : Hd) (j : Nat) (hnew : newH (now S M 0) (now S M 1) = (o, (j : Int), true)) :
    Calls Tryz.prog 29 #[.pointer (some ⟨d, 0, none⟩)] w (OpenS d m s b N p S M o j n w) := by
  have hl0 := now_length hD 0 (by omega)
  have hl1 := now_length hD 1 (by omega)
  obtain ⟨hgood, j', hj', hj1⟩ := newH_at _ _ _ _ hnew
  obtain rfl : j = j' := by omega
  have hs : nows S M 0 2 = now S M 0 ++ now S M 1 := by simp [nows, List.range_succ]
  have CR := dRead d m s b N p S M 0 0 2 w hD hP hon rfl (by omega)
  rw [hs] at CR
  obtain ⟨a0, ha0⟩ : ∃ a, now S M 0 = a := ⟨_, rfl⟩
  obtain ⟨a1, ha1⟩ : ∃ a, now S M 1 = a := ⟨_, rfl⟩
  rw [ha0, ha1] at CR hnew
  rw [ha0] at hl0
  rw [ha1] at hl1
  obtain ⟨e1, e2⟩ := sub_two a0 a1 hl0 hl1
  have hsl : (a0 ++ a1).length = 32 := by rw [List.length_append]; omega
  obtain ⟨sx, hsx⟩ : ∃ sx, a0 ++ a1 = sx := ⟨_, rfl⟩
  rw [hsx] at e1 e2 hsl CR
  have hsz : (sx.length : Int) = 32 := by omega
  rw [← hsl] at e2
  have CN : ∀ V, KeptIn (· < w.heap.size) w V → Calls Tryz.prog 54 #[.string ⟨a0.toArray⟩, .string ⟨a1.toArray⟩] V (NewH V.heap.size V o (j : Int) 0) := fun V hV => by
    have := hdNewest a0 a1 V (hT.old hV) (by omega) (by omega)
    rw [hnew] at this
    exact this
  have CP := stPagesOf d m s b N S M w hD n hn
  have CS : ∀ V, KeptIn (· < w.heap.size) w V → Calls Tryz.prog 40 #[.pointer (some ⟨d, 0, none⟩), headV o, .int .i64 (j : Int)] V fun e w' => ∃ st pg, e = .returned (.pointer (some ⟨st, 0, none⟩)) ∧ StAt ⟨d, m, s, b, st, pg⟩ o j (noP n) w' ∧ KeptIn (· < V.heap.size) V w' ∧ V.heap.size ≤ st ∧ V.heap.size ≤ pg := fun V hV =>
    stStoreOf d m s b N S M V (hD.kept hV hD.ltd hD.lts hD.ltb) o j n hn
  have hend : ∀ V W st pg, KeptIn (· < w.heap.size) w V → StAt ⟨d, m, s, b, st, pg⟩ o j (noP n) W → KeptIn (· < V.heap.size) V W → V.heap.size ≤ st → V.heap.size ≤ pg → OpenS d m s b N p S M o j n w (.returned (.tuple #[.pointer (some ⟨st, 0, none⟩), .int .i64 0])) W := fun V W st pg q3 q4 q5 q6 q7 => by
    have hk := q3.step q5
    refine ⟨st, pg, rfl, ⟨hD.kept hk hD.ltd hD.lts hD.ltb, hP.kept hk hP.lt, q4, by rw [noP_length]; exact hn.symm, by rw [noP_length]; exact h2, hgood, hj1, fun q => by rw [noP_st]; exact Nat.zero_le _, fun q hq => by rw [noP_st] at hq; cases hq⟩, hk, Nat.le_trans q3.size q6, Nat.le_trans q3.size q7⟩
  have HCR := Lib.hid CR; have HCN := Lib.hid CN; have HCP := Lib.hid CP; have HCS := Lib.hid CS; have HEND := Lib.hid hend
  have n2 : (2 : Int) ≤ (n : Int) := by omega
  obtain ⟨g, r, sl, f, c⟩ := o
  unfold headV at HCS
  clear CR CN CP CS hend hD hP hon hT hn h2 hnew hl0 hl1 hgood hj' hj1 hs ha0 ha1 hsx hsl
  go_enter Tryz.func29, Tryz.ntmps29
  go_wp2_with (first
    | (go_at_call 36; refine HCP.out.mono ?_; rintro e _ ⟨rfl, rfl⟩)
    | (go_at_call 50; refine HCR.out.mono ?_; rintro e W1 ⟨rfl, k1⟩; have K1 := Lib.hid k1; clear k1))
  go_region_law (first | (go_simp; go_at_call 54; refine Calls.mono (HCN.out _ (by first | exact K1.out.drew | exact (K1.out.drew).alloc (fun _ h => h) _)) ?_; rintro e W2 hR; unfold NewH headV at hR; obtain ⟨rfl, k2⟩ := hR; first | (have hz : BoxH W1.heap.size noH W2 := (BoxH.new W1.drew noH).kept k2 (BoxH.new W1.drew noH).lt; obtain ⟨⟨z0, z1, z2, z3, z4⟩, f0, f1, f2, f3, f4⟩ := hz.zero) | skip))
  · have hb := BoxH.new W2 ⟨g, r, sl, f, c⟩
    have hv := (K1.out.drew.step k2).alloc (fun _ h => h) (.cells #[.int .u64 g, .int .i64 r, .int .i64 sl, .int .i64 f, .int .i64 c] 39)
    obtain ⟨V, hV⟩ : ∃ V, W2.alloc (.cells #[.int .u64 g, .int .i64 r, .int .i64 sl, .int .i64 f, .int .i64 c] 39) = V := ⟨_, rfl⟩
    simp only [hV] at hb hv ⊢
    have c0 := hb.c0; have c1 := hb.c1; have c2 := hb.c2; have c3 := hb.c3; have c4 := hb.c4
    simp only at c0 c1 c2 c3 c4
    have HV := Lib.hid hv
    clear hb hv hV k2 e1 e2 hsz
    go_wp2_with fail
    refine (HCS.out V HV.out).mono ?_
    rintro e W6 ⟨st, pg, rfl, q4, q5, q6, q7⟩
    have HFIN := Lib.hid (HEND.out V W6 st pg HV.out q4 q5 q6 q7)
    clear q4 q5 q6 q7 HCS HEND HV c0 c1 c2 c3 c4
    go_wp2_with fail
    go_ret2
    exact HFIN.out
  · have hb := hz.put ⟨g, r, sl, f, c⟩
    have hv := ((K1.out.drew.alloc (fun _ h => h) _).step k2).put (x := W1.heap.size) (Nat.not_lt.2 K1.out.size) ⟨g, r, sl, f, c⟩
    clear z0 z1 z2 z3 z4 f0 f1 f2 f3 f4 hz
    obtain ⟨V, hV⟩ : ∃ V, (((((W2.setCell ⟨W1.heap.size, 0, none⟩ (.int .u64 g)).setCell ⟨W1.heap.size, 1, none⟩ (.int .i64 r)).setCell ⟨W1.heap.size, 2, none⟩ (.int .i64 sl)).setCell ⟨W1.heap.size, 3, none⟩ (.int .i64 f)).setCell ⟨W1.heap.size, 4, none⟩ (.int .i64 c)) = V := ⟨_, rfl⟩
    simp only [hV] at hb hv ⊢
    have c0 := hb.c0; have c1 := hb.c1; have c2 := hb.c2; have c3 := hb.c3; have c4 := hb.c4
    simp only at c0 c1 c2 c3 c4
    have HV := Lib.hid hv
    clear hb hv hV k2 e1 e2 hsz
    go_wp2_with fail
    refine (HCS.out V HV.out).mono ?_
    rintro e W6 ⟨st, pg, rfl, q4, q5, q6, q7⟩
    have HFIN := Lib.hid (HEND.out V W6 st pg HV.out q4 q5 q6 q7)
    clear q4 q5 q6 q7 HCS HEND HV c0 c1 c2 c3 c4
    go_wp2_with fail
    go_ret2
    exact HFIN.out

set_option maxHeartbeats 1000000 in
set_option maxRecDepth 100000 in
theorem stOpenNone (d m s b N : Nat) (p : Pw) (S : List (List UInt8)) (M : Int → Option (List UInt8)) (w : World) (hD : IsD d m s b N S M w) (hP : IsP m p w) (hon : p.on = true) (hT : Tab w) (n : Nat) (hn : min (S.length / 16) 512 = n) (h2 : 2 ≤ n) (hnew : (newH (now S M 0) (now S M 1)).2.2 = false) :
    Calls Tryz.prog 29 #[.pointer (some ⟨d, 0, none⟩)] w fun e w' => e = .returned (.tuple #[.pointer none, .int .i64 3]) ∧ KeptIn (· < w.heap.size) w w' := by
  have hl0 := now_length hD 0 (by omega)
  have hl1 := now_length hD 1 (by omega)
  have hs : nows S M 0 2 = now S M 0 ++ now S M 1 := by simp [nows, List.range_succ]
  have CR := dRead d m s b N p S M 0 0 2 w hD hP hon rfl (by omega)
  rw [hs] at CR
  obtain ⟨a0, ha0⟩ : ∃ a, now S M 0 = a := ⟨_, rfl⟩
  obtain ⟨a1, ha1⟩ : ∃ a, now S M 1 = a := ⟨_, rfl⟩
  rw [ha0, ha1] at CR hnew
  rw [ha0] at hl0
  rw [ha1] at hl1
  obtain ⟨e1, e2⟩ := sub_two a0 a1 hl0 hl1
  have hsl : (a0 ++ a1).length = 32 := by rw [List.length_append]; omega
  obtain ⟨sx, hsx⟩ : ∃ sx, a0 ++ a1 = sx := ⟨_, rfl⟩
  rw [hsx] at e1 e2 hsl CR
  have hsz : (sx.length : Int) = 32 := by omega
  rw [← hsl] at e2
  obtain ⟨⟨o, j, is⟩, hnw⟩ : ∃ x, newH a0 a1 = x := ⟨_, rfl⟩
  rw [hnw] at hnew
  simp only at hnew
  subst hnew
  have CN : ∀ V, KeptIn (· < w.heap.size) w V → Calls Tryz.prog 54 #[.string ⟨a0.toArray⟩, .string ⟨a1.toArray⟩] V (NewH V.heap.size V o j 3) := fun V hV => by
    have := hdNewest a0 a1 V (hT.old hV) (by omega) (by omega)
    rw [hnw] at this
    exact this
  have CP := stPagesOf d m s b N S M w hD n hn
  have HCR := Lib.hid CR; have HCN := Lib.hid CN; have HCP := Lib.hid CP
  have n2 : (2 : Int) ≤ (n : Int) := by omega
  obtain ⟨g, r, sl, f, c⟩ := o
  clear CR CN CP hD hP hon hT hn h2 hnw hl0 hl1 hs ha0 ha1 hsx hsl
  go_enter Tryz.func29, Tryz.ntmps29
  go_wp2_with (first
    | (go_at_call 36; refine HCP.out.mono ?_; rintro e _ ⟨rfl, rfl⟩)
    | (go_at_call 50; refine HCR.out.mono ?_; rintro e W1 ⟨rfl, k1⟩; have K1 := Lib.hid k1; clear k1))
  go_region_law (first | (go_simp; go_at_call 54; refine Calls.mono (HCN.out _ (by first | exact K1.out.drew | exact (K1.out.drew).alloc (fun _ h => h) _)) ?_; rintro e W2 hR; unfold NewH headV at hR; obtain ⟨rfl, k2⟩ := hR; first | (have hz : BoxH W1.heap.size noH W2 := (BoxH.new W1.drew noH).kept k2 (BoxH.new W1.drew noH).lt; obtain ⟨⟨z0, z1, z2, z3, z4⟩, f0, f1, f2, f3, f4⟩ := hz.zero) | skip))
  · have hv := (K1.out.drew.step k2).alloc (fun _ h => h) (.cells #[.int .u64 g, .int .i64 r, .int .i64 sl, .int .i64 f, .int .i64 c] 39)
    clear k2 e1 e2 hsz
    have HV := Lib.hid hv
    clear hv
    go_wp2_with fail
    go_ret2
    exact ⟨rfl, HV.out⟩
  · have hv := ((K1.out.drew.alloc (fun _ h => h) _).step k2).put (x := W1.heap.size) (Nat.not_lt.2 K1.out.size) ⟨g, r, sl, f, c⟩
    clear z0 z1 z2 z3 z4 f0 f1 f2 f3 f4 hz k2 e1 e2 hsz
    have HV := Lib.hid hv
    clear hv
    go_wp2_with fail
    go_ret2
    exact ⟨rfl, HV.out⟩

end Go.Proofs.YtkgjmejgkffbdaaGreatDoor
