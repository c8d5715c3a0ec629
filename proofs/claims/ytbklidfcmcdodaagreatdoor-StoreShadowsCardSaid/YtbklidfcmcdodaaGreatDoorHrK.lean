import Derived.Test.YtbklidfcmcdodaaGreatDoorJ7
/- Package head's Read. -/
set_option linter.unusedVariables false
namespace Go.Proofs.YtbklidfcmcdodaaGreatDoor
open Go.RowKit

theorem read_math (s : List UInt8) (ho : openIs s = true) : (parseH (openOf s) = false → isH s = false) ∧ (parseH (openOf s) = true → isH s = goodH (headIn (openOf s)) ∧ headIn (openOf s) = headIn s) := by
  by_cases hl : s.length = 16
  · have ht := openOf_16 s ho hl
    have h0 : (s.take 12).getD 0 0 = s.getD 0 0 := by
      obtain ⟨a, b, c, d, e, f, g, i, j, k, l, m, r, rfl⟩ := take12 s (by omega)
      rfl
    have h12 : (s.take 12).length = 12 := by rw [List.length_take]; omega
    have hi := isH_iff s hl
    rw [ho, Bool.true_and] at hi
    rw [ht, parseH, decide_eq_true h12, Bool.true_and, h0, headIn_take s (by omega)]
    constructor
    · intro h
      rw [← hi, h]; rfl
    · intro h
      rw [h, Bool.true_and] at hi
      exact ⟨hi.symm, rfl⟩
  · have h4 : 4 ≤ s.length := by
      rw [openIs, Bool.and_eq_true] at ho
      exact of_decide_eq_true ho.1
    have h12 : (openOf s).length ≠ 12 := by rw [openOf_length s ho]; omega
    rw [parseH, decide_eq_false h12, Bool.false_and]
    exact ⟨fun _ => isH_short hl, fun h => by cases h⟩

/-- What Read hands back. -/
def ReadH (B : Nat) (w : World) (o : Hd) (er : Int) (e : Ending) (w' : World) : Prop :=
  e = .returned (.tuple #[headV o, .int .i64 er]) ∧ KeptIn (· < B) w w'

set_option maxHeartbeats 2000000 in
set_option maxRecDepth 100000 in
theorem hdRead (s : List UInt8) (w : World) (hT : Tab w) (hs : s.length ≤ 65536) :
    Calls Tryz.prog 95 #[.string ⟨s.toArray⟩] w (ReadH w.heap.size w (headR s) (if isH s then 0 else 3)) := by
  obtain ⟨er, her⟩ : ∃ er : Int, (if isH s then 0 else 3) = er := ⟨_, rfl⟩
  obtain ⟨o, ho⟩ : ∃ o, headR s = o := ⟨_, rfl⟩
  rw [her, ho]
  have HE : Hid ((isH s = false → er = 3 ∧ o = noH) ∧ (isH s = true → er = 0 ∧ o = headIn s)) := Lib.hid
    ⟨fun h => ⟨by rw [← her, h]; rfl, by rw [← ho, headR, h]; rfl⟩, fun h => ⟨by rw [← her, h]; rfl, by rw [← ho, headR, h]; rfl⟩⟩
  clear her ho
  obtain ⟨B, hB⟩ : ∃ B, w.heap.size = B := ⟨_, rfl⟩
  obtain ⟨W0, hW0⟩ : ∃ W0, w.alloc (.cells #[.int .u64 0, .int .i64 0, .int .i64 0, .int .i64 0, .int .i64 0] 39) = W0 := ⟨_, rfl⟩
  have hx0 : BoxH B noH W0 := by rw [← hW0, ← hB]; exact heap_alloc_new w _
  have hk0 : KeptIn (· < B) w W0 := by rw [← hW0]; exact (KeptIn.refl _ w).alloc (fun k hk => by rw [hB]; exact hk) _
  have hT0 : Tab W0 := hT.kept hk0 (by rw [← hB]; exact hT.lt)
  have HQ : Hid (∀ W, KeptIn (· < W0.heap.size) W0 W → BoxH B noH W ∧ KeptIn (· < B) w W) := Lib.hid fun W hk =>
    ⟨hx0.kept hk hx0.lt, hk0.trans (hk.mono fun k h => Nat.lt_trans h hx0.lt)⟩
  have CO := castleOpen s W0 hT0 hs
  have HW0 := Lib.hid hW0
  have HB := Lib.hid hB
  rw [hB]
  clear hx0 hk0 hT0 hW0 hB hT
  cases hoi : openIs s with
  | false =>
    have hn : isH s = false := by
      rw [Bool.eq_false_iff]
      intro h
      have := isH_open h
      rw [hoi] at this
      cases this
    obtain ⟨rfl, rfl⟩ := HE.out.1 hn
    rw [hoi] at CO
    generalize openOf s = t at *
    have HCO := Lib.hid CO
    clear CO hn hoi HE
    go_enter Tryz.func95, Tryz.ntmps95
    go_wp2_with (go_at_call 92; rw [HW0.out, HB.out]; refine HCO.out.mono ?_; rintro e W1 ⟨rfl, k1⟩; obtain ⟨⟨z0, z1, z2, z3, z4⟩, f0, f1, f2, f3, f4⟩ := (HQ.out W1 k1).1.zero)
    have HF := Lib.hid (HQ.out W1 k1)
    have hpt := HF.out.1.put0
    have hkt := HF.out.2.put0 (Nat.lt_irrefl B)
    have HPT := Lib.hid hpt
    have HKT := Lib.hid hkt
    clear hpt hkt
    try simp only [Exit.inBlock, Exit.then]
    refine bodyPost_ret (results_head rfl _ _ B noH rfl HPT.out) rfl ?_
    unfold ReadH
    exact ⟨rfl, HKT.out⟩
  | true =>
    have hm := read_math s hoi
    have hol : (openOf s).length ≤ 65536 := by rw [openOf_length s hoi]; omega
    rw [hoi] at CO
    generalize openOf s = t at *
    have HM := Lib.hid hm
    have HCO := Lib.hid CO
    have HOL := Lib.hid hol
    clear CO hm hol hoi hs
    go_enter Tryz.func95, Tryz.ntmps95
    go_wp2_with (go_at_call 92; rw [HW0.out, HB.out]; refine HCO.out.mono ?_; rintro e W1 ⟨rfl, k1⟩)
    have CP := hdParse t W1 HOL.out
    have K1 := Lib.hid k1
    have hq := k1.size
    have HKP := Lib.hid fun (V : World) (h : KeptIn (· < W1.heap.size) W1 V) => K1.out.trans (h.mono fun k hk => Nat.lt_of_lt_of_le hk hq)
    clear k1 hq
    cases hp : parseH t with
    | false =>
      obtain ⟨rfl, rfl⟩ := HE.out.1 (HM.out.1 hp)
      rw [hp] at CP
      refine CP.mono ?_
      clear CP hp
      rintro e W2 hP
      unfold ParseH at hP
      obtain ⟨⟨g, r, s0, f, c⟩, rfl, k2, _⟩ := hP
      have hf := HQ.out _ (HKP.out _ (k2.alloc (fun _ h => h) (.cells #[.int .u64 g, .int .i64 r, .int .i64 s0, .int .i64 f, .int .i64 c] 39)))
      obtain ⟨⟨z0, z1, z2, z3, z4⟩, f0, f1, f2, f3, f4⟩ := hf.1.zero
      have HF := Lib.hid hf
      clear hf k2
      unfold headV
      simp only
      go_wp2_with fail
      have hpt := HF.out.1.put0
      have hkt := HF.out.2.put0 (Nat.lt_irrefl B)
      have HPT := Lib.hid hpt
      have HKT := Lib.hid hkt
      clear hpt hkt
      try simp only [Exit.inBlock, Exit.then]
      refine bodyPost_ret (results_head rfl _ _ B noH rfl HPT.out) rfl ?_
      unfold ReadH
      exact ⟨rfl, HKT.out⟩
    | true =>
      obtain ⟨hm1, hm2⟩ := HM.out.2 hp
      rw [hp] at CP
      refine CP.mono ?_
      clear CP hp
      rintro e W2 hP
      unfold ParseH at hP
      obtain ⟨h, rfl, k2, hh⟩ := hP
      obtain rfl := hh rfl
      have CG := Lib.hid fun V => hdGood (headIn t) V
      have hx := BoxH.new W2 (headIn t)
      rw [hm2] at CG hx ⊢
      rw [hm2] at hm1
      simp only [← hm1] at CG
      generalize hhi : headIn s = o' at *
      obtain ⟨g, r, s0, f, c⟩ := o'
      unfold headV at *
      simp only at CG hx ⊢
      obtain ⟨x, hxx⟩ : ∃ x, W2.heap.size = x := ⟨_, rfl⟩
      obtain ⟨W3, hW3⟩ : ∃ W3, W2.alloc (.cells #[.int .u64 g, .int .i64 r, .int .i64 s0, .int .i64 f, .int .i64 c] 39) = W3 := ⟨_, rfl⟩
      have k3 : KeptIn (· < W1.heap.size) W1 W3 := by rw [← hW3]; exact k2.alloc (fun _ h => h) _
      rw [hW3, hxx] at hx
      have hf3 := HQ.out _ (HKP.out _ k3)
      have HX := Lib.hid (And.intro hx (And.intro hf3 (And.intro hW3 hxx)))
      have HQ4 := Lib.hid fun (V : World) (h : KeptIn (· < W3.heap.size) W3 V) => HQ.out V (HKP.out V (k3.trans (h.mono fun k hk => Nat.lt_of_lt_of_le hk k3.size)))
      clear hx hf3 hW3 hxx k3 k2 hm1 hm2 hh
      cases his : isH s with
      | false =>
        obtain ⟨rfl, rfl⟩ := HE.out.1 his
        simp only [his] at CG
        clear his
        go_wp2_with (go_at_call 74; rw [HX.out.2.2.1, HX.out.2.2.2]; refine (CG.out W3).mono ?_; rintro e W4 ⟨rfl, k4⟩; obtain ⟨⟨z0, z1, z2, z3, z4⟩, f0, f1, f2, f3, f4⟩ := (HQ4.out W4 k4).1.zero)
        have HF := Lib.hid (HQ4.out W4 k4)
        have hpt := HF.out.1.put0
        have hkt := HF.out.2.put0 (Nat.lt_irrefl B)
        have HPT := Lib.hid hpt
        have HKT := Lib.hid hkt
        clear hpt hkt
        try simp only [Exit.inBlock, Exit.then]
        refine bodyPost_ret (results_head rfl _ _ B noH rfl HPT.out) rfl ?_
        unfold ReadH
        exact ⟨rfl, HKT.out⟩
      | true =>
        obtain ⟨rfl, ho⟩ := HE.out.2 his
        subst ho
        simp only [his] at CG
        clear his
        have HC4 := Lib.hid fun (V : World) (h : KeptIn (· < W3.heap.size) W3 V) => (show V.cell? ⟨x, 0, none⟩ = some (.int .u64 g) ∧ V.cell? ⟨x, 1, none⟩ = some (.int .i64 r) ∧ V.cell? ⟨x, 2, none⟩ = some (.int .i64 s0) ∧ V.cell? ⟨x, 3, none⟩ = some (.int .i64 f) ∧ V.cell? ⟨x, 4, none⟩ = some (.int .i64 c) from
          have hx := HX.out.1.kept h HX.out.1.lt
          ⟨hx.c0, hx.c1, hx.c2, hx.c3, hx.c4⟩)
        clear hhi
        go_wp2_with (go_at_call 74; rw [HX.out.2.2.1, HX.out.2.2.2]; refine (CG.out W3).mono ?_; rintro e W4 ⟨rfl, k4⟩; obtain ⟨⟨z0, z1, z2, z3, z4⟩, f0, f1, f2, f3, f4⟩ := (HQ4.out W4 k4).1.zero; obtain ⟨c0, c1, c2, c3, c4⟩ := HC4.out W4 k4)
        have hpt := (HQ4.out W4 k4).1.put ⟨g, r, s0, f, c⟩
        have hkt := (HQ4.out W4 k4).2.put (Nat.lt_irrefl B) ⟨g, r, s0, f, c⟩
        have HPT := Lib.hid hpt
        have HKT := Lib.hid hkt
        clear hpt hkt
        try simp only [Exit.inBlock, Exit.then]
        refine bodyPost_ret (results_head rfl _ _ B ⟨g, r, s0, f, c⟩ rfl HPT.out) rfl ?_
        unfold ReadH
        exact ⟨rfl, HKT.out⟩

end Go.Proofs.YtbklidfcmcdodaaGreatDoor
