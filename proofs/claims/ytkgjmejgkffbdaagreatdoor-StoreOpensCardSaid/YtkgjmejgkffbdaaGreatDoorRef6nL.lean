import Derived.Test.YtkgjmejgkffbdaaGreatDoorRef6cL
/- The reference of layer 6 (tierceref06): Newest. -/
set_option linter.unusedVariables false
namespace Go.Proofs.YtkgjmejgkffbdaaGreatDoor
open Go.RowKit

/-- What the reference's Newest hands back. -/
def New6 (B : Nat) (w : World) (o : Hd) (i : Int) (is : Bool) (e : Ending) (w' : World) : Prop :=
  e = .returned (.tuple #[headV o, .int .i64 i, .bool is]) ∧ KeptIn (· < B) w w'

theorem new_ft {a b : List UInt8} (ha : isH a = false) (hb : isH b = true) : newH a b = (headR b, 1, true) := by
  rw [newH, headR, ha, hb]; rfl
theorem new_tf {a b : List UInt8} (ha : isH a = true) (hb : isH b = false) : newH a b = (headR a, 0, true) := by
  rw [newH, headR, ha, hb]; rfl

set_option maxHeartbeats 2000000 in
set_option maxRecDepth 100000 in
theorem r6Newest (a b : List UInt8) (w : World) (ha : a.length ≤ 65536) (hb : b.length ≤ 65536) :
    Calls Tryz.prog 30 #[.string ⟨a.toArray⟩, .string ⟨b.toArray⟩] w (New6 w.heap.size w (newH a b).1 (newH a b).2.1 (newH a b).2.2) := by
  obtain ⟨B, hB⟩ : ∃ B, w.heap.size = B := ⟨_, rfl⟩
  obtain ⟨W0, hW0⟩ : ∃ W0, w.alloc (.cells #[.int .u64 0, .int .i64 0, .int .i64 0, .int .i64 0, .int .i64 0] 39) = W0 := ⟨_, rfl⟩
  have hx0 : BoxH B noH W0 := by rw [← hW0, ← hB]; exact heap_alloc_new w _
  have hk0 : KeptIn (· < B) w W0 := by rw [← hW0]; exact (KeptIn.refl _ w).alloc (fun k hk => by rw [hB]; exact hk) _
  have HQ : Hid (∀ W, KeptIn (· < W0.heap.size) W0 W → BoxH B noH W ∧ KeptIn (· < B) w W) := Lib.hid fun W hk =>
    ⟨hx0.kept hk hx0.lt, hk0.trans (hk.mono fun k h => Nat.lt_trans h hx0.lt)⟩
  have CA := r6Read a W0 ha
  have CB := fun V (hk : KeptIn (· < W0.heap.size) W0 V) => r6Read b V hb
  have HW0 := Lib.hid hW0
  have HB := Lib.hid hB
  rw [hB]
  obtain ⟨⟨o, i, is⟩, hn⟩ : ∃ n, newH a b = n := ⟨_, rfl⟩
  rw [hn]
  have HN : Hid ((isH a = false ∧ isH b = false → (o, i, is) = (noH, 0, false)) ∧ (isH a = true ∧ isH b = true → (o, i, is) = if (headR b).gen ≤ (headR a).gen then (headR a, 0, true) else (headR b, 1, true)) ∧ (isH a = false ∧ isH b = true → (o, i, is) = (headR b, 1, true)) ∧ (isH a = true ∧ isH b = false → (o, i, is) = (headR a, 0, true))) := Lib.hid
    ⟨fun h => by rw [← hn]; exact new_none h.1 h.2, fun h => by rw [← hn]; exact new_some (.inl h.1), fun h => by rw [← hn]; exact new_ft h.1 h.2, fun h => by rw [← hn]; exact new_tf h.1 h.2⟩
  obtain ⟨oa, hoa⟩ : ∃ o, headR a = o := ⟨_, rfl⟩
  obtain ⟨ob, hob⟩ : ∃ o, headR b = o := ⟨_, rfl⟩
  rw [hoa] at CA
  simp only [hob] at CB
  rw [hoa, hob] at HN
  obtain ⟨g, r, s, f, c⟩ := oa
  obtain ⟨g', r', s', f', c'⟩ := ob
  simp only at HN ⊢
  clear hx0 hk0 hW0 hB hoa hob hn ha hb
  obtain ⟨ia, hia⟩ : ∃ i, isH a = i := ⟨_, rfl⟩
  obtain ⟨ib, hib⟩ : ∃ i, isH b = i := ⟨_, rfl⟩
  rw [hia, hib] at HN
  rw [hia] at CA
  simp only [hib] at CB
  clear hia hib
  cases ia with
  | false =>
    have HCA := Lib.hid CA
    clear CA
    cases ib with
    | false =>
      have HCB := Lib.hid CB
      clear CB
      have hnn := HN.out.1 ⟨rfl, rfl⟩
      simp only [Prod.mk.injEq] at hnn
      obtain ⟨rfl, rfl, rfl⟩ := hnn
      clear HN
      go_enter Tryz.func30, Tryz.ntmps30
      go_wp2_with (go_at_call 55; rw [HW0.out, HB.out]; refine HCA.out.mono ?_; rintro e W1 hR; unfold Read6 headV at hR; obtain ⟨rfl, k1⟩ := hR; simp only [])
      obtain ⟨x, hx⟩ : ∃ x, W1.heap.size = x := ⟨_, rfl⟩
      obtain ⟨W2, hW2⟩ : ∃ W2, W1.alloc (.cells #[.int .u64 g, .int .i64 r, .int .i64 s, .int .i64 f, .int .i64 c] 39) = W2 := ⟨_, rfl⟩
      have bx : BoxH x ⟨g, r, s, f, c⟩ W2 := by rw [← hW2, ← hx]; exact BoxH.new W1 ⟨g, r, s, f, c⟩
      have k2 : KeptIn (· < W0.heap.size) W0 W2 := by rw [← hW2]; exact k1.alloc (fun _ h => h) _
      rw [hW2, hx]
      have HX := Lib.hid (And.intro bx k2)
      clear bx k2 k1 hW2 hx
      refine (HCB.out W2 HX.out.2).mono ?_
      rintro e W3 hR
      unfold Read6 headV at hR
      obtain ⟨rfl, k3⟩ := hR
      have k4 : KeptIn (· < W2.heap.size) W2 (W3.alloc (.cells #[.int .u64 g', .int .i64 r', .int .i64 s', .int .i64 f', .int .i64 c'] 39)) := k3.alloc (fun _ h => h) _
      have hx4 := HX.out.1.kept k4 HX.out.1.lt
      have hf4 := HQ.out _ (HX.out.2.trans (k4.mono fun k hk => Nat.lt_of_lt_of_le hk HX.out.2.size))
      have c0 := hx4.c0; have c1 := hx4.c1; have c2 := hx4.c2; have c3 := hx4.c3; have c4 := hx4.c4
      obtain ⟨⟨z0, z1, z2, z3, z4⟩, f0, f1, f2, f3, f4⟩ := hf4.1.zero
      simp only at c0 c1 c2 c3 c4
      have HF := Lib.hid hf4
      clear hx4 hf4 k4 k3
      go_wp2_with fail
      have hpt := HF.out.1.put0
      have hkt := HF.out.2.put0 (Nat.lt_irrefl B)
      have HPT := Lib.hid hpt
      have HKT := Lib.hid hkt
      clear hpt hkt
      try simp only [Exit.inBlock, Exit.then]
      refine bodyPost_ret (results_head3 rfl _ _ B noH rfl HPT.out) rfl ?_
      unfold New6
      exact ⟨rfl, HKT.out⟩
    | true =>
      have HCB := Lib.hid CB
      clear CB
      have hnn := HN.out.2.2.1 ⟨rfl, rfl⟩
      simp only [Prod.mk.injEq] at hnn
      obtain ⟨rfl, rfl, rfl⟩ := hnn
      clear HN
      go_enter Tryz.func30, Tryz.ntmps30
      go_wp2_with (go_at_call 55; rw [HW0.out, HB.out]; refine HCA.out.mono ?_; rintro e W1 hR; unfold Read6 headV at hR; obtain ⟨rfl, k1⟩ := hR; simp only [])
      obtain ⟨x, hx⟩ : ∃ x, W1.heap.size = x := ⟨_, rfl⟩
      obtain ⟨W2, hW2⟩ : ∃ W2, W1.alloc (.cells #[.int .u64 g, .int .i64 r, .int .i64 s, .int .i64 f, .int .i64 c] 39) = W2 := ⟨_, rfl⟩
      have bx : BoxH x ⟨g, r, s, f, c⟩ W2 := by rw [← hW2, ← hx]; exact BoxH.new W1 ⟨g, r, s, f, c⟩
      have k2 : KeptIn (· < W0.heap.size) W0 W2 := by rw [← hW2]; exact k1.alloc (fun _ h => h) _
      rw [hW2, hx]
      have HX := Lib.hid (And.intro bx k2)
      clear bx k2 k1 hW2 hx
      refine (HCB.out W2 HX.out.2).mono ?_
      rintro e W3 hR
      unfold Read6 headV at hR
      obtain ⟨rfl, k3⟩ := hR
      have k4 : KeptIn (· < W2.heap.size) W2 (W3.alloc (.cells #[.int .u64 g', .int .i64 r', .int .i64 s', .int .i64 f', .int .i64 c'] 39)) := k3.alloc (fun _ h => h) _
      have hx4 := HX.out.1.kept k4 HX.out.1.lt
      have hf4 := HQ.out _ (HX.out.2.trans (k4.mono fun k hk => Nat.lt_of_lt_of_le hk HX.out.2.size))
      have c0 := hx4.c0; have c1 := hx4.c1; have c2 := hx4.c2; have c3 := hx4.c3; have c4 := hx4.c4
      obtain ⟨⟨z0, z1, z2, z3, z4⟩, f0, f1, f2, f3, f4⟩ := hf4.1.zero
      simp only at c0 c1 c2 c3 c4
      have HF := Lib.hid hf4
      clear hx4 hf4 k4 k3
      go_wp2_with fail
      have hpt := HF.out.1.put ⟨g', r', s', f', c'⟩
      have hkt := HF.out.2.put (Nat.lt_irrefl B) ⟨g', r', s', f', c'⟩
      have HPT := Lib.hid hpt
      have HKT := Lib.hid hkt
      clear hpt hkt
      try simp only [Exit.inBlock, Exit.then]
      refine bodyPost_ret (results_head3 rfl _ _ B ⟨g', r', s', f', c'⟩ rfl HPT.out) rfl ?_
      unfold New6
      exact ⟨rfl, HKT.out⟩
  | true =>
    have HCA := Lib.hid CA
    clear CA
    cases ib with
    | false =>
      have HCB := Lib.hid CB
      clear CB
      have hnn := HN.out.2.2.2 ⟨rfl, rfl⟩
      simp only [Prod.mk.injEq] at hnn
      obtain ⟨rfl, rfl, rfl⟩ := hnn
      clear HN
      go_enter Tryz.func30, Tryz.ntmps30
      go_wp2_with (go_at_call 55; rw [HW0.out, HB.out]; refine HCA.out.mono ?_; rintro e W1 hR; unfold Read6 headV at hR; obtain ⟨rfl, k1⟩ := hR; simp only [])
      obtain ⟨x, hx⟩ : ∃ x, W1.heap.size = x := ⟨_, rfl⟩
      obtain ⟨W2, hW2⟩ : ∃ W2, W1.alloc (.cells #[.int .u64 g, .int .i64 r, .int .i64 s, .int .i64 f, .int .i64 c] 39) = W2 := ⟨_, rfl⟩
      have bx : BoxH x ⟨g, r, s, f, c⟩ W2 := by rw [← hW2, ← hx]; exact BoxH.new W1 ⟨g, r, s, f, c⟩
      have k2 : KeptIn (· < W0.heap.size) W0 W2 := by rw [← hW2]; exact k1.alloc (fun _ h => h) _
      rw [hW2, hx]
      have HX := Lib.hid (And.intro bx k2)
      clear bx k2 k1 hW2 hx
      refine (HCB.out W2 HX.out.2).mono ?_
      rintro e W3 hR
      unfold Read6 headV at hR
      obtain ⟨rfl, k3⟩ := hR
      have k4 : KeptIn (· < W2.heap.size) W2 (W3.alloc (.cells #[.int .u64 g', .int .i64 r', .int .i64 s', .int .i64 f', .int .i64 c'] 39)) := k3.alloc (fun _ h => h) _
      have hx4 := HX.out.1.kept k4 HX.out.1.lt
      have hf4 := HQ.out _ (HX.out.2.trans (k4.mono fun k hk => Nat.lt_of_lt_of_le hk HX.out.2.size))
      have c0 := hx4.c0; have c1 := hx4.c1; have c2 := hx4.c2; have c3 := hx4.c3; have c4 := hx4.c4
      obtain ⟨⟨z0, z1, z2, z3, z4⟩, f0, f1, f2, f3, f4⟩ := hf4.1.zero
      simp only at c0 c1 c2 c3 c4
      have HF := Lib.hid hf4
      clear hx4 hf4 k4 k3
      go_wp2_with fail
      have hpt := HF.out.1.put ⟨g, r, s, f, c⟩
      have hkt := HF.out.2.put (Nat.lt_irrefl B) ⟨g, r, s, f, c⟩
      have HPT := Lib.hid hpt
      have HKT := Lib.hid hkt
      clear hpt hkt
      try simp only [Exit.inBlock, Exit.then]
      refine bodyPost_ret (results_head3 rfl _ _ B ⟨g, r, s, f, c⟩ rfl HPT.out) rfl ?_
      unfold New6
      exact ⟨rfl, HKT.out⟩
    | true =>
      have HCB := Lib.hid CB
      clear CB
      by_cases hle : g' ≤ g
      · have hle' : (g' : Int) ≤ (g : Int) := by omega
        have hnn := HN.out.2.1 ⟨rfl, rfl⟩
        rw [if_pos hle] at hnn
        simp only [Prod.mk.injEq] at hnn
        obtain ⟨rfl, rfl, rfl⟩ := hnn
        clear hle HN
        go_enter Tryz.func30, Tryz.ntmps30
        go_wp2_with (go_at_call 55; rw [HW0.out, HB.out]; refine HCA.out.mono ?_; rintro e W1 hR; unfold Read6 headV at hR; obtain ⟨rfl, k1⟩ := hR; simp only [])
        obtain ⟨x, hx⟩ : ∃ x, W1.heap.size = x := ⟨_, rfl⟩
        obtain ⟨W2, hW2⟩ : ∃ W2, W1.alloc (.cells #[.int .u64 g, .int .i64 r, .int .i64 s, .int .i64 f, .int .i64 c] 39) = W2 := ⟨_, rfl⟩
        have bx : BoxH x ⟨g, r, s, f, c⟩ W2 := by rw [← hW2, ← hx]; exact BoxH.new W1 ⟨g, r, s, f, c⟩
        have k2 : KeptIn (· < W0.heap.size) W0 W2 := by rw [← hW2]; exact k1.alloc (fun _ h => h) _
        rw [hW2, hx]
        have HX := Lib.hid (And.intro bx k2)
        clear bx k2 k1 hW2 hx
        refine (HCB.out W2 HX.out.2).mono ?_
        rintro e W3 hR
        unfold Read6 headV at hR
        obtain ⟨rfl, k3⟩ := hR
        have k4 : KeptIn (· < W2.heap.size) W2 (W3.alloc (.cells #[.int .u64 g', .int .i64 r', .int .i64 s', .int .i64 f', .int .i64 c'] 39)) := k3.alloc (fun _ h => h) _
        have hx4 := HX.out.1.kept k4 HX.out.1.lt
        have hf4 := HQ.out _ (HX.out.2.trans (k4.mono fun k hk => Nat.lt_of_lt_of_le hk HX.out.2.size))
        have c0 := hx4.c0; have c1 := hx4.c1; have c2 := hx4.c2; have c3 := hx4.c3; have c4 := hx4.c4
        obtain ⟨⟨z0, z1, z2, z3, z4⟩, f0, f1, f2, f3, f4⟩ := hf4.1.zero
        simp only at c0 c1 c2 c3 c4
        have HF := Lib.hid hf4
        clear hx4 hf4 k4 k3
        go_wp2_with fail
        have hpt := HF.out.1.put ⟨g, r, s, f, c⟩
        have hkt := HF.out.2.put (Nat.lt_irrefl B) ⟨g, r, s, f, c⟩
        have HPT := Lib.hid hpt
        have HKT := Lib.hid hkt
        clear hpt hkt
        try simp only [Exit.inBlock, Exit.then]
        refine bodyPost_ret (results_head3 rfl _ _ B ⟨g, r, s, f, c⟩ rfl HPT.out) rfl ?_
        unfold New6
        exact ⟨rfl, HKT.out⟩
      · have hle' : ¬ (g' : Int) ≤ (g : Int) := by omega
        have hnn := HN.out.2.1 ⟨rfl, rfl⟩
        rw [if_neg hle] at hnn
        simp only [Prod.mk.injEq] at hnn
        obtain ⟨rfl, rfl, rfl⟩ := hnn
        clear hle HN
        go_enter Tryz.func30, Tryz.ntmps30
        go_wp2_with (go_at_call 55; rw [HW0.out, HB.out]; refine HCA.out.mono ?_; rintro e W1 hR; unfold Read6 headV at hR; obtain ⟨rfl, k1⟩ := hR; simp only [])
        obtain ⟨x, hx⟩ : ∃ x, W1.heap.size = x := ⟨_, rfl⟩
        obtain ⟨W2, hW2⟩ : ∃ W2, W1.alloc (.cells #[.int .u64 g, .int .i64 r, .int .i64 s, .int .i64 f, .int .i64 c] 39) = W2 := ⟨_, rfl⟩
        have bx : BoxH x ⟨g, r, s, f, c⟩ W2 := by rw [← hW2, ← hx]; exact BoxH.new W1 ⟨g, r, s, f, c⟩
        have k2 : KeptIn (· < W0.heap.size) W0 W2 := by rw [← hW2]; exact k1.alloc (fun _ h => h) _
        rw [hW2, hx]
        have HX := Lib.hid (And.intro bx k2)
        clear bx k2 k1 hW2 hx
        refine (HCB.out W2 HX.out.2).mono ?_
        rintro e W3 hR
        unfold Read6 headV at hR
        obtain ⟨rfl, k3⟩ := hR
        have k4 : KeptIn (· < W2.heap.size) W2 (W3.alloc (.cells #[.int .u64 g', .int .i64 r', .int .i64 s', .int .i64 f', .int .i64 c'] 39)) := k3.alloc (fun _ h => h) _
        have hx4 := HX.out.1.kept k4 HX.out.1.lt
        have hf4 := HQ.out _ (HX.out.2.trans (k4.mono fun k hk => Nat.lt_of_lt_of_le hk HX.out.2.size))
        have c0 := hx4.c0; have c1 := hx4.c1; have c2 := hx4.c2; have c3 := hx4.c3; have c4 := hx4.c4
        obtain ⟨⟨z0, z1, z2, z3, z4⟩, f0, f1, f2, f3, f4⟩ := hf4.1.zero
        simp only at c0 c1 c2 c3 c4
        have HF := Lib.hid hf4
        clear hx4 hf4 k4 k3
        go_wp2_with fail
        have hpt := HF.out.1.put ⟨g', r', s', f', c'⟩
        have hkt := HF.out.2.put (Nat.lt_irrefl B) ⟨g', r', s', f', c'⟩
        have HPT := Lib.hid hpt
        have HKT := Lib.hid hkt
        clear hpt hkt
        try simp only [Exit.inBlock, Exit.then]
        refine bodyPost_ret (results_head3 rfl _ _ B ⟨g', r', s', f', c'⟩ rfl HPT.out) rfl ?_
        unfold New6
        exact ⟨rfl, HKT.out⟩

end Go.Proofs.YtkgjmejgkffbdaaGreatDoor
