import Derived.Test.YtefompndoopceaaGreatDoorLf3K
/- Package leaf's Read. -/
set_option linter.unusedVariables false
namespace Go.Proofs.YtefompndoopceaaGreatDoor
open Go.RowKit

theorem not_isN {s : List UInt8} (h : isN s = false) : lvR s = 0 ∧ psR s = [] := by rw [lvR, psR, h]; exact ⟨rfl, rfl⟩
theorem is_isN {s : List UInt8} (h : isN s = true) : lvR s = lvIn s ∧ psR s = psIn s := by rw [lvR, psR, h]; exact ⟨rfl, rfl⟩

theorem take_parts (s : List UInt8) (h : s.length = 256) : lvIn (s.take 252) = lvIn s ∧ cntIn (s.take 252) = cntIn s ∧ (cntIn s ≤ 15 → pairsIn (cntIn s) ((s.take 252).drop 4) = pairsIn (cntIn s) (s.drop 4)) := by
  refine ⟨by unfold lvIn; rw [take_getD _ _ _ (by decide)], by unfold cntIn; rw [take_getD _ _ _ (by decide)], fun hc => ?_⟩
  have e : s.drop 4 = (s.take 252).drop 4 ++ s.drop 252 := by
    conv => lhs; rw [← List.take_append_drop 252 s]
    rw [List.drop_append_of_le_length (by rw [List.length_take]; omega)]
  rw [e, pairsIn_append _ _ _ (by rw [List.length_drop, List.length_take]; omega)]

theorem parseOk_cnt {t : List UInt8} (h : parseOk t = true) : cntIn t ≤ 15 := by
  simp only [parseOk, Bool.and_eq_true, decide_eq_true_eq] at h
  exact h.1.2

/-- What Read hands back. -/
def ReadL (B : Nat) (w : World) (s : List UInt8) (er : Int) (e : Ending) (w' : World) : Prop :=
  ∃ a cap, e = .returned (.tuple #[leafV (lvR s) a (psR s).length cap, .int .i64 er]) ∧ IsPs w' a (psR s) ∧ KeptIn (· < B) w w'

set_option maxHeartbeats 2000000 in
set_option maxRecDepth 100000 in
theorem lfRead (s : List UInt8) (w : World) (hT : Tab w) (hs : s.length ≤ 65536) :
    Calls Tryz.prog 56 #[.string ⟨s.toArray⟩] w (ReadL w.heap.size w s (if isN s then 0 else 3)) := by
  obtain ⟨er, her⟩ : ∃ er : Int, (if isN s then 0 else 3) = er := ⟨_, rfl⟩
  rw [her]
  have HER := Lib.hid her
  clear her
  obtain ⟨B, hB⟩ : ∃ B, w.heap.size = B := ⟨_, rfl⟩
  have hx0 := BoxL.new w 0 none 0 0
  rw [hB] at hx0 ⊢
  have hk0 : KeptIn (· < B) w (w.alloc (.cells #[.int .i64 0, .slice none 0 0] 47)) := (KeptIn.refl _ w).alloc (fun k hk => by rw [hB]; exact hk) _
  have hT0 : Tab (w.alloc (.cells #[.int .i64 0, .slice none 0 0] 47)) := hT.kept hk0 (by rw [← hB]; exact hT.lt)
  obtain ⟨W0, hW0⟩ : ∃ W0, w.alloc (.cells #[.int .i64 0, .slice none 0 0] 47) = W0 := ⟨_, rfl⟩
  rw [hW0] at hx0 hk0 hT0
  have HSET : Hid (∀ W, BoxL B 0 none 0 0 W → KeptIn (· < B) w W → BoxL B 0 none 0 0 ((W.setCell ⟨B, 0, none⟩ (.int .i64 0)).setCell ⟨B, 1, none⟩ (.slice none 0 0)) ∧ KeptIn (· < B) w ((W.setCell ⟨B, 0, none⟩ (.int .i64 0)).setCell ⟨B, 1, none⟩ (.slice none 0 0))) :=
    Lib.hid fun W h1 h2 => ⟨h1.set, (h2.setCell (p := ⟨B, 0, none⟩) (Nat.lt_irrefl B) _).setCell (p := ⟨B, 1, none⟩) (Nat.lt_irrefl B) _⟩
  have HQ : Hid (∀ W, KeptIn (· < W0.heap.size) W0 W → W.cell? ⟨B, 0, none⟩ = some (.int .i64 0) ∧ W.cell? ⟨B, 1, none⟩ = some (.slice none 0 0) ∧ W.frozen? ⟨B, 0, none⟩ = false ∧ W.frozen? ⟨B, 1, none⟩ = false) := Lib.hid fun W hk => by
    have h1 := hx0.kept hk hx0.lt
    exact ⟨h1.c0, h1.c1, h1.f0, h1.f1⟩
  by_cases h256 : s.length = 256
  · have hl : (s.length : Int) = 256 := by omega
    obtain ⟨ht1, ht2, ht3⟩ := take_parts s h256
    have hiff := parse_iff s h256
    have htl : (s.take 252).length = 252 := by rw [List.length_take]; omega
    have hop : openIs s = true → openOf s = s.take 252 := fun h => by rw [openOf, h, if_pos rfl, h256]
    have CO := castleOpen s W0 hT0 (by omega)
    have H0 := Lib.hid (And.intro hx0 hk0)
    have HP := Lib.hid (And.intro ht1 (And.intro ht2 (And.intro ht3 (And.intro hiff htl))))
    clear hT0 hT hs hx0 hk0 ht1 ht2 ht3 hiff htl
    cases ho : openIs s with
    | false =>
      have hN : isN s = false := by rw [← HP.out.2.2.2.1 (lvIn s) (pairsIn (cntIn s) (s.drop 4)) rfl (fun _ => rfl), ho]; rfl
      simp only [ho] at CO
      have HCO := Lib.hid CO
      have HN := Lib.hid hN
      obtain rfl : er = 3 := by rw [← HER.out, hN]; rfl
      clear CO ho hop hN h256
      go_enter Tryz.func56, Tryz.ntmps56
      go_wp2_with (go_at_call 92; refine HCO.out.mono ?_; rintro e W1 ⟨rfl, k1⟩; obtain ⟨p0, p1, o0, o1⟩ := HQ.out W1 k1)
      have hset := HSET.out W1 (H0.out.1.kept k1 H0.out.1.lt) (H0.out.2.trans (k1.mono fun k hk => Nat.lt_trans hk H0.out.1.lt))
      have hN := HN.out
      have HR := Lib.hid (And.intro hN (not_isN hN))
      have HS := Lib.hid hset
      clear hN hset
      try simp only [Exit.inBlock, Exit.then]
      refine bodyPost_ret (results_leaf rfl _ _ B 0 none 0 0 rfl HS.out.1) rfl ?_
      unfold ReadL
      exact ⟨none, 0, by rw [HR.out.2.1, HR.out.2.2]; rfl, by rw [HR.out.2.2]; exact IsPs.none _ _, HS.out.2⟩
    | true =>
      have hop' := hop ho
      simp only [ho, hop'] at CO
      obtain ⟨t, htt⟩ : ∃ t, s.take 252 = t := ⟨_, rfl⟩
      rw [htt] at CO
      simp only [htt] at HP
      have HCO := Lib.hid CO
      have HO := Lib.hid ho
      have CP := Lib.hid fun V => lfParse t V HP.out.2.2.2.2
      clear CO ho hop hop' h256 htt
      go_enter Tryz.func56, Tryz.ntmps56
      go_wp2_with (go_at_call 92; refine HCO.out.mono ?_; rintro e W1 ⟨rfl, k1⟩; obtain ⟨p0, p1, o0, o1⟩ := HQ.out W1 k1)
      have h1 := H0.out.1.kept k1 H0.out.1.lt
      have H1 : Hid (BoxL B 0 none 0 0 W1 ∧ KeptIn (· < B) w W1) := Lib.hid ⟨h1, H0.out.2.trans (k1.mono fun k hk => Nat.lt_trans hk H0.out.1.lt)⟩
      have K1 := Lib.hid k1
      clear k1 h1
      clear CP
      have CP := lfParse t W1 HP.out.2.2.2.2
      have hBW : B < W1.heap.size := H1.out.1.lt
      cases hp : parseOk t with
      | false =>
        have hN : isN s = false := by rw [← HP.out.2.2.2.1 (lvIn s) (pairsIn (cntIn s) (s.drop 4)) rfl (fun _ => rfl), hp]; simp
        simp only [hp] at CP
        have HCP := Lib.hid CP
        have HN := Lib.hid hN
        obtain rfl : er = 3 := by rw [← HER.out, hN]; rfl
        clear CP hN hp
        refine HCP.out.mono ?_
        rintro e W2 ⟨lv, a, cap, ps, rfl, _, _, hk2, _⟩
        have k3 : KeptIn (· < W0.heap.size) W0 (W2.alloc (.cells #[.int .i64 lv, .slice a ps.length cap] 47)) := K1.out.trans ((hk2.mono fun k hk => Nat.lt_of_lt_of_le hk K1.out.size).alloc (fun k hk => Nat.lt_of_lt_of_le hk K1.out.size) _)
        obtain ⟨p0', p1', o0', o1'⟩ := HQ.out _ k3
        have K3 := Lib.hid k3
        clear k3 hk2 p0 p1 o0 o1 HCP
        generalize ps.length = n at *
        unfold leafV
        go_wp2_with fail
        have hset := HSET.out _ (H0.out.1.kept K3.out H0.out.1.lt) (H0.out.2.trans (K3.out.mono fun k hk => Nat.lt_trans hk H0.out.1.lt))
        have hN := HN.out
        have HR := Lib.hid (And.intro hN (not_isN hN))
        have HS := Lib.hid hset
        clear hN hset
        try simp only [Exit.inBlock, Exit.then]
        refine bodyPost_ret (results_leaf rfl _ _ B 0 none 0 0 rfl HS.out.1) rfl ?_
        unfold ReadL
        exact ⟨none, 0, by rw [HR.out.2.1, HR.out.2.2]; rfl, by rw [HR.out.2.2]; exact IsPs.none _ _, HS.out.2⟩
      | true =>
        have hcnt : cntIn s ≤ 15 := by have := parseOk_cnt hp; rw [HP.out.2.1] at this; exact this
        have hgd := HP.out.2.2.2.1 (lvIn s) (pairsIn (cntIn s) (s.drop 4)) rfl (fun _ => rfl)
        rw [HO.out, hp, decide_eq_true hcnt] at hgd
        simp only [Bool.true_and] at hgd
        have hpsI : psIn s = pairsIn (cntIn s) (s.drop 4) := by rw [psIn, Nat.min_eq_left hcnt]
        simp only [hp] at CP
        have HCP := Lib.hid CP
        have HGD := Lib.hid (And.intro hgd (And.intro hpsI hcnt))
        clear CP hgd hpsI hcnt hp
        refine HCP.out.mono ?_
        rintro e W2 ⟨lv, a, cap, ps, rfl, hrow, hfit, hk2, hlp⟩
        obtain ⟨hlv, hps⟩ := hlp trivial
        rw [HP.out.1] at hlv
        rw [HP.out.2.1, HP.out.2.2.1 HGD.out.2.2, ← HGD.out.2.1] at hps
        subst hlv hps
        have hgd := HGD.out.1
        rw [← HGD.out.2.1] at hgd
        have hrow3 := hrow.alloc (.cells #[.int .i64 (lvIn s), .slice a (psIn s).length cap] 47)
        have k3 : KeptIn (· < W0.heap.size) W0 (W2.alloc (.cells #[.int .i64 (lvIn s), .slice a (psIn s).length cap] 47)) := K1.out.trans ((hk2.mono fun k hk => Nat.lt_of_lt_of_le hk K1.out.size).alloc (fun k hk => Nat.lt_of_lt_of_le hk K1.out.size) _)
        have hbx := BoxL.new W2 (lvIn s) a (psIn s).length cap
        obtain ⟨x, hx⟩ : ∃ x, W2.heap.size = x := ⟨_, rfl⟩
        obtain ⟨W3, hW3⟩ : ∃ W3, W2.alloc (.cells #[.int .i64 (lvIn s), .slice a (psIn s).length cap] 47) = W3 := ⟨_, rfl⟩
        rw [hW3] at hrow3 k3 hbx
        rw [hx] at hbx
        have HRW := Lib.hid (And.intro hrow3 (And.intro hfit k3))
        have HBX := Lib.hid hbx
        have HGO := Lib.hid fun V (hk : KeptIn (· < W3.heap.size) W3 V) => lfGood (lvIn s) a cap (psIn s) V ((row_IsPs HRW.out.1 HRW.out.2.1).old hk)
        simp only [hgd] at HGO
        have HBW := Lib.hid hBW
        obtain ⟨n, hn⟩ : ∃ n, (psIn s).length = n := ⟨_, rfl⟩
        obtain ⟨L, hL⟩ : ∃ L, lvIn s = L := ⟨_, rfl⟩
        rw [hn, hL] at HGO HBX hW3 ⊢
        unfold leafV at HGO ⊢
        rw [hn] at HRW
        have HN := Lib.hid (And.intro hn hL)
        clear hgd hrow3 k3 hbx hrow hfit hk2 hlp HCP p0 p1 o0 o1 hn hL hBW
        cases his : isN s with
        | false =>
          simp only [his] at HGO
          obtain rfl : er = 3 := by rw [← HER.out, his]; rfl
          have HIS := Lib.hid his
          clear his
          have c0 := HBX.out.c0; have c1 := HBX.out.c1
          go_wp2_with (go_at_call 85; refine (HGO.out W3 (KeptIn.refl _ _)).mono ?_; rintro e W4 ⟨rfl, k4⟩; obtain ⟨p0, p1, o0, o1⟩ := HQ.out W4 (HRW.out.2.2.trans (k4.mono fun k hk => Nat.lt_of_lt_of_le hk HRW.out.2.2.size)))
          have hset := HSET.out W4 (H0.out.1.kept (HRW.out.2.2.trans (k4.mono fun k hk => Nat.lt_of_lt_of_le hk HRW.out.2.2.size)) H0.out.1.lt) (H0.out.2.trans ((HRW.out.2.2.trans (k4.mono fun k hk => Nat.lt_of_lt_of_le hk HRW.out.2.2.size)).mono fun k hk => Nat.lt_trans hk H0.out.1.lt))
          have hN := HIS.out
          have HR := Lib.hid (And.intro hN (not_isN hN))
          have HS := Lib.hid hset
          clear hN hset
          try simp only [Exit.inBlock, Exit.then]
          refine bodyPost_ret (results_leaf rfl _ _ B 0 none 0 0 rfl HS.out.1) rfl ?_
          unfold ReadL
          exact ⟨none, 0, by rw [HR.out.2.1, HR.out.2.2]; rfl, by rw [HR.out.2.2]; exact IsPs.none _ _, HS.out.2⟩
        | true =>
          simp only [his] at HGO
          obtain rfl : er = 0 := by rw [← HER.out, his]; rfl
          have HIS := Lib.hid his
          clear his
          have c0 := HBX.out.c0; have c1 := HBX.out.c1
          have HB4 : Hid (∀ W4, KeptIn (· < W3.heap.size) W3 W4 → (W4.cell? ⟨x, 0, none⟩ = some (.int .i64 L) ∧ W4.cell? ⟨x, 1, none⟩ = some (.slice a n cap)) ∧ W4.cell? ⟨B, 0, none⟩ = some (.int .i64 0) ∧ W4.cell? ⟨B, 1, none⟩ = some (.slice none 0 0) ∧ W4.frozen? ⟨B, 0, none⟩ = false ∧ W4.frozen? ⟨B, 1, none⟩ = false) := Lib.hid fun W4 k4 =>
            ⟨⟨(HBX.out.kept k4 HBX.out.lt).c0, (HBX.out.kept k4 HBX.out.lt).c1⟩, HQ.out W4 (HRW.out.2.2.trans (k4.mono fun k hk => Nat.lt_of_lt_of_le hk HRW.out.2.2.size))⟩
          go_wp2_with (go_at_call 85; refine (HGO.out W3 (KeptIn.refl _ _)).mono ?_; rintro e W4 ⟨rfl, k4⟩; obtain ⟨⟨x0, x1⟩, p0, p1, o0, o1⟩ := HB4.out W4 k4)
          have k5 := HRW.out.2.2.trans (k4.mono fun k hk => Nat.lt_of_lt_of_le hk HRW.out.2.2.size)
          have hb5 := H0.out.1.kept k5 H0.out.1.lt
          have hrow4 := rowS_block HRW.out.1 fun g e => k4.block g (rowS_lt HRW.out.1 g e).2
          have hne : ∀ g, (Value.slice a n cap).ownBlock = some g → g ≠ B := fun g e => by
            have := (rowS_lt hrow4 g e).1
            have := HBW.out
            have := K1.out.size
            omega
          have hs5 : BoxL B L a n cap ((W4.setCell ⟨B, 0, none⟩ (.int .i64 L)).setCell ⟨B, 1, none⟩ (.slice a n cap)) := hb5.set
          have hr5 := rowS_block (w' := (W4.setCell ⟨B, 0, none⟩ (.int .i64 L)).setCell ⟨B, 1, none⟩ (.slice a n cap)) hrow4 fun g e => (heap_setCell_other _ _ _ _ (hne g e)).trans (heap_setCell_other _ _ _ _ (hne g e))
          have hps5 : IsPs ((W4.setCell ⟨B, 0, none⟩ (.int .i64 L)).setCell ⟨B, 1, none⟩ (.slice a n cap)) a (psIn s) := by
            obtain ⟨W5, hW5⟩ : ∃ W5, (W4.setCell ⟨B, 0, none⟩ (.int .i64 L)).setCell ⟨B, 1, none⟩ (.slice a n cap) = W5 := ⟨_, rfl⟩
            rw [hW5] at hr5 ⊢
            rw [← HN.out.1] at hr5
            exact row_IsPs hr5 HRW.out.2.1
          have hk5 : KeptIn (· < B) w ((W4.setCell ⟨B, 0, none⟩ (.int .i64 L)).setCell ⟨B, 1, none⟩ (.slice a n cap)) := ((H0.out.2.trans (k5.mono fun k hk => Nat.lt_trans hk H0.out.1.lt)).setCell (p := ⟨B, 0, none⟩) (Nat.lt_irrefl B) _).setCell (p := ⟨B, 1, none⟩) (Nat.lt_irrefl B) _
          have HF := Lib.hid (And.intro hs5 (And.intro hps5 hk5))
          clear hs5 hr5 hps5 hk5 hne hrow4 hb5 k5
          try simp only [Exit.inBlock, Exit.then]
          refine bodyPost_ret (results_leaf rfl _ _ B L a n cap rfl HF.out.1) rfl ?_
          unfold ReadL
          exact ⟨a, cap, by rw [(is_isN HIS.out).1, (is_isN HIS.out).2, HN.out.1, HN.out.2]; rfl, by rw [(is_isN HIS.out).2]; exact HF.out.2.1, HF.out.2.2⟩
  · have hl : ((s.length : Int) == 256) = false := by rw [beq_eq_false_iff_ne]; omega
    have hl2 : (s.length == 256) = false := by rw [beq_eq_false_iff_ne]; exact h256
    have hm : (s.length : Int) ≤ 65536 := by omega
    have hN : isN s = false := by rw [isN, decide_eq_false h256]; rfl
    obtain rfl : er = 3 := by rw [← HER.out, hN]; rfl
    have p0 := hx0.c0; have p1 := hx0.c1; have o0 := hx0.f0; have o1 := hx0.f1
    have HN := Lib.hid hN
    have HST := Lib.hid (And.intro hx0 hk0)
    clear hT0 hT hs hx0 hk0 h256 hN
    go_enter Tryz.func56, Tryz.ntmps56
    go_wp2_with fail
    have hset := HSET.out _ HST.out.1 HST.out.2
    have hN := HN.out
    have HR := Lib.hid (And.intro hN (not_isN hN))
    have HS := Lib.hid hset
    clear hN hset
    try simp only [Exit.inBlock, Exit.then]
    refine bodyPost_ret (results_leaf rfl _ _ B 0 none 0 0 rfl HS.out.1) rfl ?_
    unfold ReadL
    exact ⟨none, 0, by rw [HR.out.2.1, HR.out.2.2]; rfl, by rw [HR.out.2.2]; exact IsPs.none _ _, HS.out.2⟩

end Go.Proofs.YtefompndoopceaaGreatDoor
