import Derived.Test.YtkgjmejgkffbdaaGreatDoorSfL
/- A store's Format. -/
set_option linter.unusedVariables false
namespace Go.Proofs.YtkgjmejgkffbdaaGreatDoor
open Go.RowKit

/-- All but a device's changing blocks stands. -/
abbrev Fd (m s b : Nat) (V W : World) : Prop := KeptIn (fun k => k < V.heap.size ∧ k ≠ m ∧ k ≠ s ∧ k ≠ b) V W
theorem Fd.trans' {m s b : Nat} {U V W : World} (h : Fd m s b U V) (k : Fd m s b V W) : Fd m s b U W := h.trans (k.mono fun i hi => ⟨Nat.lt_of_lt_of_le hi.1 h.size, hi.2⟩)
theorem Fd.of_old {m s b : Nat} {V W : World} (h : KeptIn (· < V.heap.size) V W) : Fd m s b V W := h.mono fun _ hk => hk.1

/-- The sectors behind a Format. -/
def formS (S : List (List UInt8)) (M : Int → Option (List UInt8)) (h : Hd) : List (List UInt8) := flushed S (putN M 0 (bytesH h ++ zeroS) 2)
theorem formS_length (S : List (List UInt8)) (M : Int → Option (List UInt8)) (h : Hd) : (formS S M h).length = S.length := flushed_len _ _
theorem formS_at (S : List (List UInt8)) (M : Int → Option (List UInt8)) (h : Hd) (x : Nat) (hx : x < S.length) : (formS S M h).getD x [] = if x = 0 then bytesH h else if x = 1 then zeroS else now S M x := by
  unfold formS
  rw [flushed_get x hx]
  have hb := bytesH_length h
  have hz : zeroS.length = 16 := by simp [zeroS]
  by_cases h0 : x = 0
  · subst h0
    rw [if_pos rfl]
    refine now_of _ _ ?_
    rw [putN_eq, if_pos (by omega)]
    show some (((bytesH h ++ zeroS).drop (16 * 0)).take 16) = _
    rw [Nat.mul_zero, List.drop_zero, List.take_left' hb]
  · rw [if_neg h0]
    by_cases h1 : x = 1
    · subst h1
      rw [if_pos rfl]
      refine now_of _ _ ?_
      rw [putN_eq, if_pos (by omega)]
      show some (((bytesH h ++ zeroS).drop (16 * 1)).take 16) = _
      rw [Nat.mul_one, List.drop_left' hb, List.take_of_length_le (by omega)]
    · rw [if_neg h1]
      unfold now
      rw [putN_eq, if_neg (by omega)]

/-- What Format hands back. -/
def FormS (d m s b : Nat) (S : List (List UInt8)) (M : Int → Option (List UInt8)) (h : Hd) (n : Nat) (w : World) (e : Ending) (w' : World) : Prop :=
  ∃ (st pg : Nat) (p' : Pw), e = .returned (.tuple #[.pointer (some ⟨st, 0, none⟩), .int .i64 0]) ∧ Sv ⟨d, m, s, b, st, pg⟩ 0 p' (formS S M h) (fun _ => none) h 0 (noP n) w' ∧ p'.sure ∧ Fd m s b w w' ∧ w.heap.size ≤ st ∧ w.heap.size ≤ pg

set_option maxHeartbeats 4000000 in
set_option maxRecDepth 100000 in
theorem stFormatOk (d m s b N : Nat) (p : Pw) (S : List (List UInt8)) (M : Int → Option (List UInt8)) (w : World) (hD : IsD d m s b N S M w) (hP : IsP m p w) (hsure : p.sure) (hN : N ≤ 100000) (hT : Tab w) (sl f c : Int) (hg : goodH ⟨1, 0, sl, f, c⟩ = true) (n : Nat) (hn : min (S.length / 16) 512 = n) (h2 : 2 ≤ n) :
    Calls Tryz.prog 7 #[.pointer (some ⟨d, 0, none⟩), .agg #[.int .i64 sl, .int .i64 f], .int .i64 c] w (FormS d m s b S M ⟨1, 0, sl, f, c⟩ n w) := by
  obtain ⟨B, hB⟩ : ∃ B, w.heap.size = B := ⟨_, rfl⟩
  obtain ⟨W0, hW0⟩ : ∃ W0, (w.alloc (.cells #[.int .i64 sl, .int .i64 f] 33)).alloc (.cells #[.int .u64 1, .int .i64 0, .int .i64 sl, .int .i64 f, .int .i64 c] 39) = W0 := ⟨_, rfl⟩
  have hk0 : KeptIn (· < w.heap.size) w W0 := by rw [← hW0]; exact ((KeptIn.refl _ w).alloc (fun _ h => h) _).alloc (fun _ h => h) _
  have hx0 : BoxH (w.heap.size + 1) ⟨1, 0, sl, f, c⟩ W0 := by
    have := BoxH.new (w.alloc (.cells #[.int .i64 sl, .int .i64 f] 33)) ⟨1, 0, sl, f, c⟩
    rw [World.size_alloc] at this
    rw [← hW0]
    exact this
  have hT0 := hT.old hk0
  have hD0 := hD.kept hk0 hD.ltd hD.lts hD.ltb
  have hP0 := hP.kept hk0 hP.lt
  have hlts := And.intro hD.ltd (And.intro hD.lts (And.intro hD.ltb hP.lt))
  obtain ⟨n1, n2, n3⟩ := hP.1.ne hD
  have hndb := hD.ne_db; have hnds := hD.ne_ds
  have hmax := hD.max
  have CB := Lib.hid (hdBytesOk ⟨1, 0, sl, f, c⟩ hg W0 hT0)
  unfold headV at CB
  obtain ⟨bs, hbs⟩ : ∃ bs, bytesH ⟨1, 0, sl, f, c⟩ = bs := ⟨_, rfl⟩
  have hbl : bs.length = 16 := by rw [← hbs]; exact bytesH_length _
  rw [hbs] at CB
  have CP : ∀ V, KeptIn (· < W0.heap.size) W0 V → Calls Tryz.prog 36 #[.pointer (some ⟨d, 0, none⟩)] V fun e w' => e = .returned (.int .i64 n) ∧ V = w' := fun V hV =>
    stPagesOf d m s b N S M V (hD0.kept hV hD0.ltd hD0.lts hD0.ltb) n hn
  obtain ⟨zs, hzs⟩ : ∃ zs : List UInt8, List.replicate 16 0 = zs := ⟨_, rfl⟩
  have hzl : zs.length = 16 := by rw [← hzs]; simp
  have CZ : ∀ V, Calls Tryz.prog 38 #[.string ⟨#[0]⟩, .int .i64 16] V fun e w' => e = .returned (.string ⟨zs.toArray⟩) ∧ KeptIn (· < V.heap.size) V w' := fun V => by
    have := repeatZ 16 V (by omega)
    rw [hzs] at this
    exact this
  have CW : ∀ V, KeptIn (· < W0.heap.size) W0 V → Calls Tryz.prog 37 #[.pointer (some ⟨d, 0, none⟩), .int .i64 0, .string ⟨(bs ++ zs).toArray⟩] V fun e V' => e = .returned (.int .i64 0) ∧
      IsD d m s b (N + 2) S (putN M 0 (bs ++ zs) 2) V' ∧ IsP m (Pw.go 2 p).2 V' ∧ Fd m s b V V' := fun V hV => by
    have hl : (bs ++ zs).length = 32 := by rw [List.length_append]; omega
    refine (dWrite d m s b N p S M 0 (bs ++ zs) 2 V (hD0.kept hV hD0.ltd hD0.lts hD0.ltb) (hP0.kept hV hP0.lt) (by rw [hl]; unfold maxLen; omega) hl (by simp only [fits, Bool.and_eq_true, decide_eq_true_eq]; omega) (by unfold maxLen; omega)).mono ?_
    rintro e V' ⟨rfl, q1, q2, q3⟩
    rw [hsure.go.1] at q1 ⊢
    exact ⟨by rw [if_pos rfl], q1, q2, q3.mono fun k hk => ⟨hk.1, hk.2.1, hk.2.2.2⟩⟩
  have CF : ∀ V, IsD d m s b (N + 2) S (putN M 0 (bs ++ zs) 2) V → IsP m (Pw.go 2 p).2 V → Calls Tryz.prog 39 #[.pointer (some ⟨d, 0, none⟩)] V fun e V' => e = .returned (.int .i64 0) ∧
      IsD d m s b 0 (flushed S (putN M 0 (bs ++ zs) 2)) (fun _ => none) V' ∧ IsP m (Pw.go 2 p).2.use V' ∧ Fd m s b V V' := fun V q1 q2 => by
    refine (dFlushOn d m s b (N + 2) (Pw.go 2 p).2 S _ V q1 q2 hsure.go.2.can).mono ?_
    rintro e V' ⟨rfl, q1, q2, q3⟩
    exact ⟨rfl, q1, q2, q3.mono fun k hk => ⟨hk.1, hk.2.1, hk.2.2.1, hk.2.2.2⟩⟩
  have hz : zs = zeroS := hzs.symm
  have hcar : ∀ V, Fd m s b W0 V → BoxH (w.heap.size + 1) ⟨1, 0, sl, f, c⟩ V ∧ Fd m s b w V := fun V hV =>
    ⟨hx0.kept hV ⟨hx0.lt, by omega, by omega, by omega⟩, (Fd.of_old hk0).trans' hV⟩
  have hend : ∀ V W st pg, IsD d m s b 0 (flushed S (putN M 0 (bs ++ zs) 2)) (fun _ => none) V → IsP m (Pw.go 2 p).2.use V → Fd m s b w V → StAt ⟨d, m, s, b, st, pg⟩ ⟨1, 0, sl, f, c⟩ 0 (noP n) W → KeptIn (· < V.heap.size) V W → V.heap.size ≤ st → V.heap.size ≤ pg → FormS d m s b S M ⟨1, 0, sl, f, c⟩ n w (.returned (.tuple #[.pointer (some ⟨st, 0, none⟩), .int .i64 0])) W := fun V W st pg q1 q2 q3 q4 q5 q6 q7 => by
    have e : flushed S (putN M 0 (bs ++ zs) 2) = formS S M ⟨1, 0, sl, f, c⟩ := by rw [formS, hbs, hz]
    refine ⟨st, pg, _, rfl, ⟨by rw [← e]; exact q1.kept q5 q1.ltd q1.lts q1.ltb, q2.kept q5 q2.lt, q4, by rw [noP_length, formS_length]; exact hn.symm, by rw [noP_length]; exact h2, hg, Nat.zero_le _, fun q => by rw [noP_st]; exact Nat.zero_le _, fun q hq => by rw [noP_st] at hq; cases hq⟩, hsure.go.2.use, q3.trans' (Fd.of_old q5), Nat.le_trans q3.size q6, Nat.le_trans q3.size q7⟩
  have hst : ∀ V, IsD d m s b 0 (flushed S (putN M 0 (bs ++ zs) 2)) (fun _ => none) V → Calls Tryz.prog 40 #[.pointer (some ⟨d, 0, none⟩), .agg #[.int .u64 1, .int .i64 0, .int .i64 sl, .int .i64 f, .int .i64 c], .int .i64 0] V fun e w' => ∃ st pg, e = .returned (.pointer (some ⟨st, 0, none⟩)) ∧ StAt ⟨d, m, s, b, st, pg⟩ ⟨1, 0, sl, f, c⟩ 0 (noP n) w' ∧ KeptIn (· < V.heap.size) V w' ∧ V.heap.size ≤ st ∧ V.heap.size ≤ pg := fun V q1 =>
    stStoreOf d m s b 0 _ _ V q1 ⟨1, 0, sl, f, c⟩ 0 n (by rw [flushed_len]; exact hn)
  simp only [← joinB] at CW
  have HCP := Lib.hid CP; have HCZ := Lib.hid CZ; have HCW := Lib.hid CW; have HCF := Lib.hid CF; have HCAR := Lib.hid hcar; have HEND := Lib.hid hend; have HST := Lib.hid hst
  have HW0 := Lib.hid hW0
  have HL := Lib.hid (And.intro hbl hzl)
  have n2i : (2 : Int) ≤ (n : Int) := by omega
  have hcat : (bs.length : Int) + zs.length = 32 := by omega
  clear CP CZ CW CF hcar hend hst hW0 hk0 hx0 hT0 hD0 hP0 hlts n1 n2 n3 hndb hnds hmax hbl hzl hz hzs hbs hD hP hT hg hn h2 hsure hN hB
  go_enter Tryz.func7, Tryz.ntmps7
  go_wp2_with (first
    | (go_at_call 35; rw [HW0.out]; refine CB.out.mono ?_; rintro e W2 ⟨rfl, k2⟩)
    | (go_at_call 36; refine (HCP.out W2 k2).mono ?_; rintro e _ ⟨rfl, rfl⟩)
    | (go_at_call 38; refine (HCZ.out W2).mono ?_; rintro e W3 ⟨rfl, k3⟩; have k23 := k2.step k3; clear k3)
    | (go_at_call 37; refine (HCW.out W3 k23).mono ?_; rintro e W4 ⟨rfl, q1, q2, q3⟩; have HQ := Lib.hid (And.intro q1 (And.intro q2 ((Fd.of_old k23).trans' q3))); clear q1 q2 q3 k2 k23)
    | (go_at_call 39; refine (HCF.out W4 HQ.out.1 HQ.out.2.1).mono ?_; rintro e W5 ⟨rfl, q1, q2, q3⟩; have hc5 := HCAR.out W5 (HQ.out.2.2.trans' q3); have HQ5 := Lib.hid (And.intro q1 (And.intro q2 hc5.2)); have c0 := hc5.1.c0; have c1 := hc5.1.c1; have c2 := hc5.1.c2; have c3 := hc5.1.c3; have c4 := hc5.1.c4; (simp only at c0 c1 c2 c3 c4); clear q1 q2 q3 hc5))
  refine (HST.out W5 HQ5.out.1).mono ?_
  rintro e W6 ⟨st, pg, rfl, q4, q5, q6, q7⟩
  have HFIN := Lib.hid (HEND.out W5 W6 st pg HQ5.out.1 HQ5.out.2.1 HQ5.out.2.2 q4 q5 q6 q7)
  clear q4 q5 q6 q7 HCP HCZ HCW HCF HST HEND HCAR c0 c1 c2 c3 c4 HQ HQ5
  go_wp2_with fail
  go_ret2
  exact HFIN.out

theorem stFormatNil (v x : Value) (w : World) (sl f : Int) : Calls Tryz.prog 7 #[.pointer none, .agg #[.int .i64 sl, .int .i64 f], x] w fun e w' => e = .returned (.tuple #[.pointer none, .int .i64 2]) ∧ KeptIn (· < w.heap.size) w w' := by
  go_enter Tryz.func7, Tryz.ntmps7
  go_wp2
  go_ret2
  exact ⟨rfl, (KeptIn.refl _ _).alloc (fun _ h => h) _⟩

set_option maxHeartbeats 4000000 in
set_option maxRecDepth 100000 in
theorem stFormatBad (d m s b N : Nat) (S : List (List UInt8)) (M : Int → Option (List UInt8)) (w : World) (hD : IsD d m s b N S M w) (hT : Tab w) (sl f c : Int) (n : Nat) (hn : min (S.length / 16) 512 = n) (hbad : goodH ⟨1, 0, sl, f, c⟩ = false ∨ n < 2) :
    Calls Tryz.prog 7 #[.pointer (some ⟨d, 0, none⟩), .agg #[.int .i64 sl, .int .i64 f], .int .i64 c] w fun e w' => e = .returned (.tuple #[.pointer none, .int .i64 1]) ∧ KeptIn (· < w.heap.size) w w' := by
  obtain ⟨W0, hW0⟩ : ∃ W0, (w.alloc (.cells #[.int .i64 sl, .int .i64 f] 33)).alloc (.cells #[.int .u64 1, .int .i64 0, .int .i64 sl, .int .i64 f, .int .i64 c] 39) = W0 := ⟨_, rfl⟩
  have hk0 : KeptIn (· < w.heap.size) w W0 := by rw [← hW0]; exact ((KeptIn.refl _ w).alloc (fun _ h => h) _).alloc (fun _ h => h) _
  have hD0 := hD.kept hk0 hD.ltd hD.lts hD.ltb
  have hT0 := hT.old hk0
  have CP : ∀ V, KeptIn (· < W0.heap.size) W0 V → Calls Tryz.prog 36 #[.pointer (some ⟨d, 0, none⟩)] V fun e w' => e = .returned (.int .i64 n) ∧ V = w' := fun V hV =>
    stPagesOf d m s b N S M V (hD0.kept hV hD0.ltd hD0.lts hD0.ltb) n hn
  have HCP := Lib.hid CP
  have HW0 := Lib.hid hW0
  have HK0 := Lib.hid hk0
  cases hg : goodH ⟨1, 0, sl, f, c⟩ with
  | false =>
    have CB := Lib.hid (hdBytesBad ⟨1, 0, sl, f, c⟩ hg W0)
    unfold headV at CB
    clear hk0 hD0 hT0 hD hT hW0 hn hbad CP hg HCP
    go_enter Tryz.func7, Tryz.ntmps7
    go_wp2_with (go_at_call 35; rw [HW0.out]; refine CB.out.mono ?_; rintro e W2 ⟨rfl, k2⟩)
    go_ret2
    exact ⟨rfl, HK0.out.step k2⟩
  | true =>
    rw [hg] at hbad
    have h2 : n < 2 := hbad.resolve_left (by simp)
    have n2 : (n : Int) < 2 := by omega
    have CB := Lib.hid (hdBytesOk ⟨1, 0, sl, f, c⟩ hg W0 hT0)
    unfold headV at CB
    obtain ⟨bs, hbs⟩ : ∃ bs, bytesH ⟨1, 0, sl, f, c⟩ = bs := ⟨_, rfl⟩
    rw [hbs] at CB
    clear hk0 hD0 hT0 hD hT hW0 hn hbad CP hg hbs h2
    go_enter Tryz.func7, Tryz.ntmps7
    go_wp2_with (first
      | (go_at_call 35; rw [HW0.out]; refine CB.out.mono ?_; rintro e W2 ⟨rfl, k2⟩)
      | (go_at_call 36; refine (HCP.out W2 k2).mono ?_; rintro e _ ⟨rfl, rfl⟩))
    go_ret2
    exact ⟨rfl, HK0.out.step k2⟩

end Go.Proofs.YtkgjmejgkffbdaaGreatDoor
