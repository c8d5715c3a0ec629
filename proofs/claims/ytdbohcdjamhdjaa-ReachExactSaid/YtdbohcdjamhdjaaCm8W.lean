import Derived.Test.YtdbohcdjamhdjaaCl8W
/- Package tree's climb: the walk. -/
set_option linter.unusedVariables false
namespace Go.Proofs.Ytdbohcdjamhdjaa
open Go.RowKit Go.Shelf
attribute [local go_sem] Oper.semAt_some

/-- with, whatever the step. -/
theorem trWithAny {w : World} {s : Stp} {a : Option Addr} {cap : Nat} (h : IsPs w a s.ps) (hc : CapOk a s.ps.length cap) (hok : StOk s) (aL : Option Addr) (al : Nat) (xs : Pairs) (hL : IsPs w aL xs) (hl2 : xs.length ≤ 1000) (hE : EmpOk aL xs.length al) :
    Calls Try.prog 54 #[stepV (s.lv : Int) a s.ps.length cap s.fr s.to, .slice aL xs.length al] w (WithS w (s.lv : Int) (withM s xs)) := by
  obtain ⟨h1, h2, h3, h4⟩ := hc
  cases a with
  | some p =>
    obtain ⟨g, rfl⟩ := h4 p rfl
    exact trWith (s.lv : Int) g cap s.fr s.to al aL s.ps xs w h ⟨h1, h2, h3, h4⟩ hok.1 hok.2.1 (Nat.le_trans hok.2.2 (by decide)) hL hl2 hE
  | none =>
    have hc0 := h3 rfl
    have hn0 : s.ps.length = 0 := by omega
    have ht : s.to = 0 := by have := hok.2.1; omega
    have hf : s.fr = 0 := by have := hok.1; omega
    have hps : s.ps = [] := List.length_eq_zero_iff.1 hn0
    rw [hn0, hc0, ht, hf]
    have : withM s xs = xs := by unfold withM; rw [hps]; simp
    rw [this]
    exact trWithNil (s.lv : Int) al aL xs w hL hl2 hE

theorem cb_nums (n k : Nat) (h : k + 1 = n) (hn : n ≤ 1000) : wrap64 ((n : Int) - 1) = (k : Int) ∧ (0 : Int) ≤ (k : Int) ∧ (k : Int) < (n : Int) ∧ (k : Int) ≤ (n : Int) := by
  refine ⟨by unfold wrap64; omega, by omega, by omega, by omega⟩

set_option maxRecDepth 100000 in
set_option maxHeartbeats 4000000 in
theorem trClimb {w : World} {s room : Nat} {N : List Nd} {D : Nat → Prop} (h : IsSh w s room N D) {B0 : Nat} (hsB : s < B0) (g cap : Nat) (ws init : List Stp) (z : Stp) (hws : ws = init ++ [z]) (hw : WayR w B0 (.slice (some ⟨g, 0, none⟩) ws.length cap) ws) (hB0 : B0 ≤ g) (hl : ws.length ≤ 1000) (hok : ∀ t ∈ ws, StOk t) (aL : Option Addr) (al : Nat) (xs : Pairs) (hL : IsPs w aL xs) (hl2 : xs.length ≤ 1) (hE : EmpOk aL xs.length al) (hNc : N.length ≤ min room 511) :
    Calls Try.prog 38 #[pgV s, .slice (some ⟨g, 0, none⟩) ws.length cap, .slice aL xs.length al] w (BodyS w s room D (lvOf ws) (climbM (min room 511) ws xs N)) := by
  obtain ⟨xs0, hrow, hwc⟩ := hw
  obtain ⟨A, C, hAC⟩ := way_at hwc
  obtain ⟨hst, hcap, hcm⟩ := row_stB hrow fun i hi => ⟨(hAC i hi).1, (hAC i hi).2.1, (hAC i hi).2.2.1, (hAC i hi).2.2.2.1⟩
  obtain ⟨k, hk⟩ : ∃ k, init.length = k := ⟨_, rfl⟩
  have hnl : k + 1 = ws.length := by rw [hws]; simp [hk]
  have hkl : k < ws.length := by omega
  have hz : ws[k] = z := by simp [hws, ← hk]
  obtain ⟨n1, n2, n3, n4⟩ := cb_nums ws.length k hnl hl
  refine (callsIn_wide (n := 3)).1 ?_
  refine callsIn_of_wp_marks Try.func38 rfl trivial ?_ rfl
  simp only [Try.ntmps38, pgV, List.size_toArray, List.length_cons, List.length_nil, Nat.reduceAdd, Nat.reduceSub, Array.replicate_succ, Array.replicate_zero, List.push_toArray, List.append_toArray, List.nil_append, List.cons_append]
  obtain ⟨W1, hW1⟩ : ∃ W1, allocL w [.cells #[.iface 28 (.pointer (some ⟨s, 0, none⟩))] 63, .cells #[.int .i64 0, .slice none 0 0] 27, .cells #[.int .i64 0] 32] = W1 := ⟨_, rfl⟩
  have hk1 : KeptIn (· < w.heap.size) w W1 := by rw [← hW1]; exact allocL_kept _ _
  have hsz1 : W1.heap.size = w.heap.size + 3 := by rw [← hW1, allocL_size]; rfl
  have hat := fun i => allocL_at [.cells #[.iface 28 (.pointer (some ⟨s, 0, none⟩))] 63, .cells #[.int .i64 0, .slice none 0 0] 27, .cells #[.int .i64 0] 32] w i
  rw [hW1] at hat
  obtain ⟨B, hB⟩ : ∃ B, w.heap.size = B := ⟨_, rfl⟩
  rw [hB] at hat hsz1
  obtain ⟨B1, hB1⟩ : ∃ x, B + 1 = x := ⟨_, rfl⟩
  obtain ⟨B2, hB2⟩ : ∃ x, B1 + 1 = x := ⟨_, rfl⟩
  have b0 : W1.heap[B]? = _ := hat 0 (by simp)
  have b1 : W1.heap[B1]? = _ := (show B1 = B + 1 by omega) ▸ hat 1 (by simp)
  have b2 : W1.heap[B2]? = _ := (show B2 = B + 2 by omega) ▸ hat 2 (by simp)
  clear hat
  have hgB : g < B := by rw [← hB]; exact hst.lt
  have hst1 := hst.old' hk1
  obtain ⟨c0, c1, c2, c3⟩ := hst1.cells k hkl
  rw [hz] at c0 c1 c2 c3
  have hAk := hAC k hkl
  rw [hz] at hAk
  have CW := trWithAny (w := W1) (hAk.2.2.2.2.1.old hk1) hAk.2.2.2.2.2.2 (hok z (by rw [hws]; simp)) aL al xs (hL.old hk1) (by omega) hE
  have hW1' := hW1
  simp only [allocL, List.foldl_cons, List.foldl_nil] at hW1'
  obtain ⟨nn, hnn⟩ : ∃ nn, ws.length = nn := ⟨_, rfl⟩
  obtain ⟨nz, hnz⟩ : ∃ nz, z.ps.length = nz := ⟨_, rfl⟩
  obtain ⟨nx, hnx⟩ : ∃ nx, xs.length = nx := ⟨_, rfl⟩
  obtain ⟨A1, hA1⟩ : ∃ a, A k = a := ⟨_, rfl⟩
  obtain ⟨C1, hC1⟩ : ∃ a, C k = a := ⟨_, rfl⟩
  rw [hnz, hA1, hC1] at c1
  rw [hnn] at n1 n3 n4
  rw [hnz, hnx, hA1, hC1] at CW
  rw [hnn, hnx]
  generalize hzl : (z.lv : Int) = zl at c0 CW
  unfold stepV at CW
  obtain ⟨m9, hm9⟩ : ∃ m9, (withM z xs).length = m9 := ⟨_, rfl⟩
  have HC := Lib.hid (Calls.mono CW (R' := fun e w' => ∃ a9 c9, e = .returned (.agg #[.int .i64 zl, .slice a9 m9 c9]) ∧ w'.ownsRow W1.heap.size 82 2 (.slice a9 m9 c9) m9 (cellsP (withM z xs)) ∧ KeptIn (· < W1.heap.size) W1 w') fun e w' ⟨a9, c9, h1, h2, h3⟩ => ⟨a9, c9, by rw [← hm9]; exact h1, by rw [← hm9]; exact h2, h3⟩)
  have HM9 := Lib.hid hm9
  have H := Lib.hid (And.intro h (And.intro hst (And.intro hAC (And.intro hok (And.intro hNc (And.intro hk1 (And.intro b0 (And.intro b1 (And.intro b2 (And.intro hnl (And.intro hnn (And.intro hzl (And.intro hB (And.intro hB1 (And.intro hB2 (And.intro hsz1 (And.intro hgB (And.intro hws (And.intro hk (And.intro hl (And.intro hcap hcm)))))))))))))))))))))
  have HF0 : Hid ((withM z xs).length ≤ 100 ∧ Fits (withM z xs)) := Lib.hid ⟨by have := withM_length (hok z (by rw [hws]; simp)) xs; omega, withM_fits hAk.2.2.2.2.1.fits hL.fits⟩
  clear h hst hAC hok hNc hk1 b0 b1 b2 hnl hnn hzl hsz1 hgB hk hl hcap hcm hL hE hrow hwc hst1 hws hz hkl hW1 CW hAk hnz hnx hl2 hA1 hC1 hm9
  have n5 : (k : Int) ≤ (cap : Int) := by have := H.out.2.2.2.2.2.2.2.2.2.2.2.2.2.2.2.2.2.2.2.2.1; have := H.out.2.2.2.2.2.2.2.2.2.1; omega
  have n6 : k ≤ cap := by omega
  gi_wp2_with (refine ⟨trivial, ?_⟩; gi_at_call 54; refine (callsIn_wide.2 HC.out).mono ?_; rintro e V ⟨a9, c9, rfl, hrow9, hk9⟩)
  have HV := Lib.hid (And.intro hrow9 hk9)
  clear hrow9 hk9 HC c0 c1 c2 c3 hW1'
  gi_wp2_with (refine ⟨trivial, ?_⟩; gi_at_call 55; refine (sBack 2 (some ⟨g, 0, none⟩) k cap _).mono ?_; rintro e w' ⟨rfl, rfl⟩)
  obtain ⟨h, hst, hAC, hok, hNc, hk1, b0, b1, b2, hnl, hnn, hzl, hB, hB1, hB2, hsz1, hgB, hws, hk, hl, hcap, hcm⟩ := H.out
  obtain ⟨hrow9, hk9⟩ := HV.out
  obtain ⟨W0, hW0⟩ : ∃ W0, (V.alloc (.cells #[.int .i64 zl, .slice a9 m9 c9] 27)).alloc (.cells #[.slice (some ⟨g, 0, none⟩) k cap] 94) = W0 := ⟨_, rfl⟩
  obtain ⟨L, hLe⟩ : ∃ L, V.heap.size = L := ⟨_, rfl⟩
  obtain ⟨L1, hL1⟩ : ∃ x, L + 1 = x := ⟨_, rfl⟩
  have hkV0 : KeptIn (· < V.heap.size) V W0 := by rw [← hW0]; exact ((KeptIn.refl _ V).alloc (fun _ h => h) _).alloc (fun _ h => h) _
  have hsz0 : W0.heap.size = L + 2 := by rw [← hW0, ← hLe]; simp
  have l0 : W0.heap[L]? = some (.cells #[.int .i64 zl, .slice a9 m9 c9] 27 (0, 0)) := by
    rw [← hW0, ← hLe]
    exact (Lib.alloc_old _ _ _ (by simp)).trans (heap_alloc_new _ _)
  have l1 : W0.heap[L1]? = some (.cells #[.slice (some ⟨g, 0, none⟩) k cap] 94 (0, 0)) := by
    rw [← hW0, ← hL1, ← hLe, show V.heap.size + 1 = (V.alloc (.cells #[.int .i64 zl, .slice a9 m9 c9] 27)).heap.size by simp]
    exact heap_alloc_new _ _
  have hk0 : KeptIn (· < w.heap.size) w W0 := (hk1.go hk9).go hkV0
  have hBL : B + 3 ≤ L := by rw [← hLe, ← hsz1]; exact hk9.size
  have hsw : s < B := by rw [← hB]; exact h.lt s h.ds
  have b0' : W0.heap[B]? = _ := (hkV0.block B (by omega)).trans ((hk9.block B (by omega)).trans b0)
  have b1' : W0.heap[B1]? = some (.cells #[.int .i64 0, .slice none 0 0] 27 (0, 0)) := (hkV0.block B1 (by omega)).trans ((hk9.block B1 (by omega)).trans b1)
  have b2' : W0.heap[B2]? = some (.cells #[.int .i64 0] 32 (0, 0)) := (hkV0.block B2 (by omega)).trans ((hk9.block B2 (by omega)).trans b2)
  rw [hW0]
  simp only [hLe, hL1]
  obtain ⟨X, hXe⟩ : ∃ X : Nat → Prop, X = fun k => k < W0.heap.size ∧ k ≠ s ∧ k ≠ L := ⟨_, rfl⟩
  have hXlt : ∀ k, X k → k < W0.heap.size := fun k hk => by rw [hXe] at hk; exact hk.1
  have hkn : k ≤ ws.length := by omega
  have hX1 : X L1 := by rw [hXe]; exact ⟨by omega, by omega, by omega⟩
  have hXg : X g := by rw [hXe]; exact ⟨by omega, by omega, by omega⟩
  have hstops := sBack_stops 2 (by omega) L1 g cap k ws A C hkn hl X hX1 hXg W0 l1 (hst.kept hk0 (by rw [hB]; exact hgB))
  have hI0 : ClI W0 s room L w.heap.size D X z.lv (withM z xs) N W0 := by
    have hc := (h.old hk0).cells
    refine ⟨⟨fun k => D k ∧ IsC W0 k, a9, c9, hc, fun k hk => hk.2, fun k hk => .inl hk.1, ?_, ?_⟩, KeptIn.refl _ _⟩
    · rw [hzl, HM9.out]; exact l0
    · rw [HM9.out]
      exact row_weaken (rowS_block hrow9 fun g9 e => hkV0.block g9 (rowS_lt hrow9 g9 e).2) hk1.size
  have hzok : StOk z := hok z (by rw [hws]; simp)
  have hI00 : (withM z xs).length ≤ 100 ∧ Fits (withM z xs) := HF0.out
  have HX := Lib.hid (And.intro hXe (And.intro hXlt (And.intro hsw (And.intro hBL (And.intro hsz0 (And.intro hB (And.intro hB1 (And.intro hB2 hL1))))))))
  have HB := Lib.hid (And.intro b0' (And.intro b1' (And.intro b2' hk0)))
  have HI0 := Lib.hid (And.intro hI0 hI00)
  have HS := Lib.hid hstops
  have hXl2 := hXlt
  clear hI0 hI00 hstops hX1 hXg b0' b1' b2' l0 l1 hXe hsw hBL hsz0 hL1 hkV0 hk9 hrow9 h hst hAC hok hNc hk1 b0 b1 b2 hnl hnn hzl hB hB1 hB2 hsz1 hgB hws hk hl hcap hcm hzok hk0 hW0 hLe HV
  refine wpIn_rangeFunc_ownH rfl (by omega) (gf := 75) (lb := #[.pointer (some ⟨L1, 0, none⟩)]) rfl trivial (enters_of Try.func75 (by kernel_rfl) rfl)
    HS.out (fun h k => h.trans k) (fun W l' o o' hl' _ _ _ => KeptIn.putObj (fun hx => absurd (hXlt _ hx) (by omega)) o') (Below.refl _ _) (fun _ => rfl)
    (fun pre W => ∃ lv l N1, upM (min room 511) (stepsP ws k hkn pre) z.lv (withM z xs) N = (some (lv, l), N1) ∧ l.length ≤ 100 ∧ Fits l ∧ N1.length ≤ min room 511 ∧ ClI W0 s room L w.heap.size D X lv l N1 W)
    (ClX W0 s room B1 B2 (min room 511) D X ws k hkn z.lv (withM z xs) N)
    (fun pre W W' row ⟨lv, l, N1, h1, h2, h3, h4, h5⟩ hg hr => ⟨lv, l, N1, h1, h2, h3, h4, h5.own hXlt hg hr⟩)
    (fun c => ClX.own c hXlt)
    ⟨z.lv, withM z xs, N, rfl, HI0.out.2.1, HI0.out.2.2, H.out.2.2.2.2.1, HI0.out.1⟩
    (fun x a' W => ∃ Bx, W0.heap.size ≤ Bx ∧ W.heap[Bx]? = some (.cells #[.int .i64 ((ws[x.1]'(Nat.lt_of_lt_of_le x.2 hkn)).lv : Int), .slice (A x.1) (ws[x.1]'(Nat.lt_of_lt_of_le x.2 hkn)).ps.length (C x.1), .int .i64 ((ws[x.1]'(Nat.lt_of_lt_of_le x.2 hkn)).fr : Int), .int .i64 ((ws[x.1]'(Nat.lt_of_lt_of_le x.2 hkn)).to : Int)] 109 (0, 0)) ∧
      a' = { tmps := #[.iface 28 (.pointer (some ⟨s, 0, none⟩)), .slice (some ⟨g, 0, none⟩) nn cap, .slice aL nx al, .pointer (some ⟨B, 0, none⟩), undef, undef, .pointer (some ⟨B1, 0, none⟩), .pointer (some ⟨B2, 0, none⟩), .int .i64 (k : Int), .pointer (some ⟨L, 0, none⟩), undef, .pointer (some ⟨Bx, 0, none⟩), undef, undef, .slice (some ⟨g, 0, none⟩) nn cap, .int .i64 (nn : Int), .int .i64 (k : Int), .slice (some ⟨g, 0, none⟩) nn cap, .int .i64 (k : Int), .pointer (some ⟨g, k * 4, none⟩),
        .agg #[.int .i64 zl, .slice A1 nz C1, .int .i64 (z.fr : Int), .int .i64 (z.to : Int)], .slice aL nx al, .agg #[.int .i64 zl, .slice a9 m9 c9], .slice (some ⟨g, 0, none⟩) nn cap, .int .i64 (k : Int), .slice (some ⟨g, 0, none⟩) k cap, .func (.func 75) #[] #[.pointer (some ⟨L1, 0, none⟩)], .int .i64 (x.1 : Int),
        .agg #[.int .i64 ((ws[x.1]'(Nat.lt_of_lt_of_le x.2 hkn)).lv : Int), .slice (A x.1) (ws[x.1]'(Nat.lt_of_lt_of_le x.2 hkn)).ps.length (C x.1), .int .i64 ((ws[x.1]'(Nat.lt_of_lt_of_le x.2 hkn)).fr : Int), .int .i64 ((ws[x.1]'(Nat.lt_of_lt_of_le x.2 hkn)).to : Int)], undef, undef, undef, undef, undef, undef, undef, undef, undef, undef, undef, undef, undef, undef], defers := [] })
    (fun x a' _ W W' row ⟨Bx, h1, h2, h3⟩ hg hr => ⟨Bx, h1, (own_block (r := 0) hg hr ⟨_, _, _, h2⟩).trans h2, h3⟩)
    ?assign ?body ?done ?stop
  case assign =>
    rintro l' pre x W K hI hK
    unfold encS
    gi_wp2
    obtain ⟨lv, l, N1, h1, h2, h3, h4, h5⟩ := hI
    exact hK _ _ ((KeepsOthers.alloc _ _).from _) ((KeptIn.refl _ W).alloc (fun k hk => Nat.lt_of_lt_of_le (hXlt k hk) h5.kept.size) _) ⟨lv, l, N1, h1, h2, h3, h4, h5.own hXlt (World.grownBy_alloc W _ none) (fun r e => by cases e)⟩ ⟨W.heap.size, h5.kept.size, heap_alloc_new W _, rfl⟩
  case body =>
    rintro l' pre x a' W hl' ⟨r, hr⟩ ⟨lv, l, N1, hu, hl100, hfl, hN1, hI⟩ ⟨Bx, hBx, hbx, rfl⟩ hpre
    obtain ⟨⟨D1, aa, ca, i1, i2, i3, i4, i5⟩, hkI⟩ := hI
    obtain ⟨h, hst, hAC, hok, hNc, hk1, b0, b1, b2, hnl, hnn, hzl, hB, hB1, hB2, hsz1, hgB, hws, hk, hl, hcap, hcm⟩ := H.out
    obtain ⟨hXe, _, hsw, hBL, hsz0, _, _, _, hL1⟩ := HX.out
    have hxl : x.1 < ws.length := Nat.lt_of_lt_of_le x.2 hkn
    have hsn := stepsP_snoc (ws := ws) (hn := hkn) pre x
    have hok' := hok _ (List.getElem_mem hxl)
    obtain ⟨_, _, _, _, p1, p2, p3⟩ := hAC x.1 hxl
    generalize hstx : ws[x.1]'(Nat.lt_of_lt_of_le x.2 hkn) = st at *
    have hWsz : W0.heap.size ≤ W.heap.size := hkI.size
    have d0 : W.heap[B]? = _ := (hkI.block B (by rw [hXe]; exact ⟨by omega, by omega, by omega⟩)).trans HB.out.1
    have d1 : W.heap[B1]? = _ := (hkI.block B1 (by rw [hXe]; exact ⟨by omega, by omega, by omega⟩)).trans HB.out.2.1
    have d2 : W.heap[B2]? = _ := (hkI.block B2 (by rw [hXe]; exact ⟨by omega, by omega, by omega⟩)).trans HB.out.2.2.1
    have q0 : W.cell? ⟨B, 0, none⟩ = some (.iface 28 (.pointer (some ⟨s, 0, none⟩))) := by simp [World.cell?, d0]
    have q1 : W.cell? ⟨L, 0, none⟩ = some (.int .i64 (lv : Int)) := by simp [World.cell?, i4]
    have q2 : W.cell? ⟨L, 1, none⟩ = some (.slice aa l.length ca) := by simp [World.cell?, i4]
    have CP := trParted i1 lv ca aa l (row_listOk i5 hfl (by omega)) (by omega) hN1
    have hsnoc := upM_snoc (min room 511) st (stepsP ws k hkn pre) z.lv (withM z xs) N
    rw [← hsn, hu] at hsnoc
    dsimp only at hsnoc
    obtain ⟨ln, hln⟩ : ∃ ln, l.length = ln := ⟨_, rfl⟩
    have hXiff : ∀ k, X k ↔ k < W0.heap.size ∧ k ≠ s ∧ k ≠ L := fun k => by rw [hXe]
    have hDL : ∀ k, D k → k ≠ L := fun k hd => by have := h.lt k hd; omega
    cases hM : partM (min room 511) lv l N1 with
    | mk o N2 =>
      rw [hM] at CP hsnoc
      rw [hln] at CP q2
      cases o with
      | none =>
        dsimp only at hsnoc
        have HC := Lib.hid (Calls.mono CP (R' := fun e w' => e = .returned (.tuple #[.slice none 0 0, .int .i64 6]) ∧ AddTo W s room D1 N2 w') fun e w' h => h)
        have HF : Hid (∀ V2, AddTo W s room D1 N2 V2 → (V2.heap[B1]? = some (.cells #[.int .i64 0, .slice none 0 0] 27 (0, 0)) ∧ V2.heap[B2]? = some (.cells #[.int .i64 0] 32 (0, 0))) ∧ KeepsFrom W0.heap.size W (((V2.setCell ⟨B1, 0, none⟩ (.int .i64 0)).setCell ⟨B1, 1, none⟩ (.slice none 0 0)).setCell ⟨B2, 0, none⟩ (.int .i64 6)) ∧ ClX W0 s room B1 B2 (min room 511) D X ws k hkn z.lv (withM z xs) N .ret (pre ++ [x]) (((V2.setCell ⟨B1, 0, none⟩ (.int .i64 0)).setCell ⟨B1, 1, none⟩ (.slice none 0 0)).setCell ⟨B2, 0, none⟩ (.int .i64 6))) := Lib.hid fun V2 hA => by
          obtain ⟨D2, hsh, hD2, hk2⟩ := hA
          have z1 : V2.heap[B1]? = some (.cells #[.int .i64 0, .slice none 0 0] 27 (0, 0)) := (hk2.block B1 ⟨by omega, by omega⟩).trans d1
          have z2 : V2.heap[B2]? = some (.cells #[.int .i64 0] 32 (0, 0)) := (hk2.block B2 ⟨by omega, by omega⟩).trans d2
          have hfar : ∀ k, k ≠ B1 → k ≠ B2 → (((V2.setCell ⟨B1, 0, none⟩ (.int .i64 0)).setCell ⟨B1, 1, none⟩ (.slice none 0 0)).setCell ⟨B2, 0, none⟩ (.int .i64 6)).heap[k]? = V2.heap[k]? := fun k e1 e2 => (heap_setCell_other _ _ _ _ (by simpa using e2)).trans ((heap_setCell_other _ _ _ _ (by simpa using e1)).trans (heap_setCell_other _ _ _ _ (by simpa using e1)))
          have hnot : ∀ k, D2 k → k ≠ B1 ∧ k ≠ B2 := fun k hd => by
            rcases hD2 k hd with h' | h'
            · rcases i3 k h' with h' | h'
              · have := h.lt k h'; omega
              · omega
            · omega
          have hs2 := hk2.size
          refine ⟨⟨z1, z2⟩, ⟨by simpa using hs2, fun k o hBk ho hc => ?_⟩, rfl, N2, fun k => D2 k ∧ IsC V2 k, hsnoc, ?_, fun k hd => hd.2.eq (hfar k (hnot k hd.1).1 (hnot k hd.1).2), fun k hd => ?_, ?_, ?_, ?_⟩
          · have hkl := (Array.getElem?_eq_some_iff.1 ho).1
            exact (hfar k (by omega) (by omega)).trans ((hk2.block k ⟨hkl, by omega⟩).trans ho)
          · exact hsh.cells.kept ⟨rfl, rfl, rfl, by simp, fun k hd => hfar k (hnot k hd.1).1 (hnot k hd.1).2⟩
          · rcases hD2 k hd.1 with h' | h'
            · exact i3 k h'
            · exact .inr (by omega)
          · have y1 : (V2.setCell ⟨B1, 0, none⟩ (.int .i64 0)).heap[B1]? = _ := heap_setCell_same _ _ _ _ _ _ z1
            rw [heap_setCell_other _ _ _ _ (by simp; omega), heap_setCell_same _ _ _ _ _ _ y1]; rfl
          · have y1 : ((V2.setCell ⟨B1, 0, none⟩ (.int .i64 0)).setCell ⟨B1, 1, none⟩ (.slice none 0 0)).heap[B2]? = _ := (heap_setCell_other _ _ _ _ (by simp; omega)).trans ((heap_setCell_other _ _ _ _ (by simp; omega)).trans z2)
            rw [heap_setCell_same _ _ _ _ _ _ y1]; rfl
          · refine (hkI.mono fun k hk => hk.1).trans ⟨hk2.os, hk2.tape, hk2.output, by simpa using hs2, fun k hk => ?_⟩
            have := (hXiff k).1 hk.1
            exact (hfar k hk.2.1 hk.2.2).trans (hk2.block k ⟨by omega, this.2.1⟩)
        have hB12 : ¬ B1 = B2 := by omega
        have hB21 : ¬ B2 = B1 := by omega
        unfold pgV leafV at HC
        clear CP hsnoc hM hln hXiff hDL d0 d1 d2 hWsz p1 p2 p3 hok' hsn hxl i1 i2 i3 i4 i5 hkI h hst hAC hok hNc hk1 b0 b1 b2 hnl hnn hzl hB hB1 hB2 hsz1 hgB hws hk hl hcap hcm hXe hsw hBL hsz0 hL1 hu hl100 hfl hN1 hBx hbx hpre HI0 HS HX HB H HF0 HM9 hXl2 hXlt hr hl'
        gi_wp2_with (refine ⟨trivial, ?_⟩; gi_at_call 39; refine (CallsIn.inRound l' (callsIn_wide.2 HC.out)).mono ?_; rintro e V2 ⟨rfl, hA⟩; have hF := HF.out V2 hA; have HFF := Lib.hid hF.2; have y1 : V2.cell? ⟨B1, 0, none⟩ = some (.int .i64 0) := (cell_of_row _ _ 0 _ _ _ hF.1.1).trans rfl; have y2 : V2.cell? ⟨B1, 1, none⟩ = some (.slice none 0 0) := (cell_of_row _ _ 1 _ _ _ hF.1.1).trans rfl; have y3 : V2.cell? ⟨B2, 0, none⟩ = some (.int .i64 0) := (cell_of_row _ _ 0 _ _ _ hF.1.2).trans rfl; have y4 : V2.frozen? ⟨B1, 0, none⟩ = false := (by have := hF.1.1; simp [World.frozen?, this]); have y5 : V2.frozen? ⟨B1, 1, none⟩ = false := (by have := hF.1.1; simp [World.frozen?, this]); have y6 : V2.frozen? ⟨B2, 0, none⟩ = false := (by have := hF.1.2; simp [World.frozen?, this]); clear hF hA)
        exact HFF.out
      | some ls =>
        dsimp only at hsnoc
        obtain ⟨g1, g2, g3⟩ := part_len hM hl100 hN1 (by omega) hfl
        obtain ⟨nl, hnl9⟩ : ∃ nl, ls.length = nl := ⟨_, rfl⟩
        obtain ⟨n7, hn7⟩ : ∃ n7, (withM st ls).length = n7 := ⟨_, rfl⟩
        obtain ⟨ns, hns⟩ : ∃ ns, st.ps.length = ns := ⟨_, rfl⟩
        have HC := Lib.hid (Calls.mono CP (R' := fun e w' => ∃ a8 c8, e = .returned (.tuple #[.slice a8 nl c8, .int .i64 0]) ∧ w'.ownsRow W.heap.size 82 2 (.slice a8 nl c8) nl (cellsP ls) ∧ AddTo W s room D1 N2 w') fun e w' hh => by
          obtain ⟨⟨a8, c8, e1, e2⟩, e3⟩ := hh
          exact ⟨a8, c8, by rw [← hnl9]; exact e1, by rw [← hnl9]; exact e2, e3⟩)
        have HF : Hid (∀ V2 a8 c8, AddTo W s room D1 N2 V2 → V2.ownsRow W.heap.size 82 2 (.slice a8 nl c8) nl (cellsP ls) → (V2.heap[Bx]? = some (.cells #[.int .i64 (st.lv : Int), .slice (A x.1) ns (C x.1), .int .i64 (st.fr : Int), .int .i64 (st.to : Int)] 109 (0, 0)) ∧ V2.heap[L]? = some (.cells #[.int .i64 (lv : Int), .slice aa ln ca] 27 (0, 0))) ∧
            Calls Try.prog 54 #[.agg #[.int .i64 (st.lv : Int), .slice (A x.1) ns (C x.1), .int .i64 (st.fr : Int), .int .i64 (st.to : Int)], .slice a8 nl c8] V2 (fun e w' => ∃ a7 c7, e = .returned (.agg #[.int .i64 (st.lv : Int), .slice a7 n7 c7]) ∧ w'.ownsRow V2.heap.size 82 2 (.slice a7 n7 c7) n7 (cellsP (withM st ls)) ∧ KeptIn (· < V2.heap.size) V2 w')) := Lib.hid fun V2 a8 c8 hA hrow8 => by
          obtain ⟨D2, hsh, hD2, hk2⟩ := hA
          have hfr : KeptIn (fun k => k < B ∧ k ≠ s) w V2 := (HB.out.2.2.2.mono fun k (hk : k < B ∧ k ≠ s) => (show k < w.heap.size by rw [hB]; exact hk.1)).trans ((hkI.mono fun k (hk : k < B ∧ k ≠ s) => (hXiff k).2 ⟨by omega, hk.2, by omega⟩).trans (hk2.mono fun k (hk : k < B ∧ k ≠ s) => ⟨by omega, hk.2⟩))
          have hps : IsPs V2 (A x.1) st.ps := psAt (X := fun k => k < B ∧ k ≠ s) p1 hfr fun p e => by
            have := p2 p e
            have := this.2.lt
            exact ⟨by omega, by omega⟩
          have hbxl := (Array.getElem?_eq_some_iff.1 hbx).1
          refine ⟨⟨(hk2.block Bx ⟨hbxl, by omega⟩).trans (by rw [← hns]; exact hbx), (hk2.block L ⟨by omega, by omega⟩).trans (by rw [← hln]; exact i4)⟩, ?_⟩
          have hr8 : V2.ownsRow W.heap.size 82 2 (.slice a8 ls.length c8) ls.length (cellsP ls) := by rw [hnl9]; exact hrow8
          have := trWithAny hps p3 hok' a8 c8 ls (row_IsPs hr8 g2) (by omega) (row_emp hr8)
          rw [hns, hnl9] at this
          refine Calls.mono this ?_
          rintro e w' ⟨a7, c7, e1, e2, e3⟩
          exact ⟨a7, c7, by rw [← hn7]; exact e1, by rw [← hn7]; exact e2, e3⟩
        have HG : Hid (∀ V2 V3 a7 c7, AddTo W s room D1 N2 V2 → KeptIn (· < V2.heap.size) V2 V3 → V3.ownsRow V2.heap.size 82 2 (.slice a7 n7 c7) n7 (cellsP (withM st ls)) → KeepsFrom W0.heap.size W ((V3.setCell ⟨L, 0, none⟩ (.int .i64 (st.lv : Int))).setCell ⟨L, 1, none⟩ (.slice a7 n7 c7)) ∧ KeptIn X W ((V3.setCell ⟨L, 0, none⟩ (.int .i64 (st.lv : Int))).setCell ⟨L, 1, none⟩ (.slice a7 n7 c7)) ∧
            ∃ lv l N1, upM (min room 511) (stepsP ws k hkn (pre ++ [x])) z.lv (withM z xs) N = (some (lv, l), N1) ∧ l.length ≤ 100 ∧ Fits l ∧ N1.length ≤ min room 511 ∧ ClI W0 s room L w.heap.size D X lv l N1 ((V3.setCell ⟨L, 0, none⟩ (.int .i64 (st.lv : Int))).setCell ⟨L, 1, none⟩ (.slice a7 n7 c7))) := Lib.hid fun V2 V3 a7 c7 hA hk3 hrow7 => by
          rw [← hn7] at hrow7 ⊢
          obtain ⟨e1, e2, e3⟩ := ClI.next (Bw := w.heap.size) hXiff hDL (by omega) (by omega) (by omega) hkI (by omega) i3 i4 hA hk3 hrow7
          have := withM_length hok' ls
          exact ⟨e3, e2, st.lv, withM st ls, N2, hsnoc, by omega, withM_fits p1.fits g2, g3, e1⟩
        unfold pgV leafV at HC
        have hLs : L < W0.heap.size := by omega
        have HLs := Lib.hid hLs
        clear CP hsnoc hM hln hXiff hDL d0 d1 d2 hWsz p1 p2 p3 hok' hsn hxl i1 i2 i3 i4 i5 hkI h hst hAC hok hNc hk1 b0 b1 b2 hnl hnn hzl hB hB1 hB2 hsz1 hgB hws hk hl hcap hcm hXe hsw hBL hsz0 hL1 hu hl100 hfl hN1 hBx hbx hpre HI0 HS HX HB H HF0 HM9 hXl2 hXlt hr hl' g1 g2 g3 hnl9 hn7 hns hLs
        gi_wp2_with (first
          | (refine ⟨trivial, ?_⟩; gi_at_call 39; refine (CallsIn.inRound l' (callsIn_wide.2 HC.out)).mono ?_; rintro e V2 ⟨a8, c8, rfl, hrow8, hA⟩; have hF := HF.out V2 a8 c8 hA hrow8; have HA := Lib.hid hA; have HW2 := Lib.hid hF.2; have HL2 := Lib.hid hF.1.2; have y1 : V2.cell? ⟨Bx, 0, none⟩ = some (.int .i64 (st.lv : Int)) := (cell_of_row _ _ 0 _ _ _ hF.1.1).trans rfl; have y2 : V2.cell? ⟨Bx, 1, none⟩ = some (.slice (A x.1) ns (C x.1)) := (cell_of_row _ _ 1 _ _ _ hF.1.1).trans rfl; have y3 : V2.cell? ⟨Bx, 2, none⟩ = some (.int .i64 (st.fr : Int)) := (cell_of_row _ _ 2 _ _ _ hF.1.1).trans rfl; have y4 : V2.cell? ⟨Bx, 3, none⟩ = some (.int .i64 (st.to : Int)) := (cell_of_row _ _ 3 _ _ _ hF.1.1).trans rfl; clear hF hA hrow8 HC HF)
          | (refine ⟨trivial, ?_⟩; gi_at_call 54; refine (CallsIn.inRound l' (callsIn_wide.2 HW2.out)).mono ?_; rintro e V3 ⟨a7, c7, rfl, hrow7, hk7⟩; have hl3 := (hk7.block L (Array.getElem?_eq_some_iff.1 HL2.out).1).trans HL2.out; have HG3 := Lib.hid (HG.out V2 V3 a7 c7 HA.out hk7 hrow7); have x1 : V3.cell? ⟨L, 0, none⟩ = some (.int .i64 (lv : Int)) := (cell_of_row _ _ 0 _ _ _ hl3).trans rfl; have x2 : V3.cell? ⟨L, 1, none⟩ = some (.slice aa ln ca) := (cell_of_row _ _ 1 _ _ _ hl3).trans rfl; have x3 : V3.frozen? ⟨L, 0, none⟩ = false := (by simp [World.frozen?, hl3]); have x4 : V3.frozen? ⟨L, 1, none⟩ = false := (by simp [World.frozen?, hl3]); clear hl3 hrow7 hk7 HW2))
        exact HG3.out
  case done =>
    rintro Dd ys W hDd rfl ⟨lv, l, N1, hu, hl100, hfl, hN1, hI⟩ hK
    obtain ⟨⟨D1, aa, ca, i1, i2, i3, i4, i5⟩, hkI⟩ := hI
    obtain ⟨h, hst, hAC, hok, hNc, hk1, b0, b1, b2, hnl, hnn, hzl, hB, hB1, hB2, hsz1, hgB, hws, hk, hl, hcap, hcm⟩ := H.out
    obtain ⟨hXe, _, hsw, hBL, hsz0, _, _, _, hL1⟩ := HX.out
    have hWsz : W0.heap.size ≤ W.heap.size := hkI.size
    have d1 : W.heap[B1]? = _ := (hkI.block B1 (by rw [hXe]; exact ⟨by omega, by omega, by omega⟩)).trans HB.out.2.1
    have d2 : W.heap[B2]? = _ := (hkI.block B2 (by rw [hXe]; exact ⟨by omega, by omega, by omega⟩)).trans HB.out.2.2.1
    subst hk
    rw [steps_all hws hkn _ (Nat.le_refl _)] at hu
    have htk : init.reverse.take init.length = init.reverse := List.take_of_length_le (by simp)
    rw [htk] at hu
    obtain ⟨cu1, cu2⟩ := climb_up (min room 511) xs N z init
    rw [← hws, hu] at cu1 cu2
    have hlv := cu2 _ rfl
    dsimp only [Option.map_some] at cu1
    have HCU := Lib.hid (And.intro cu1 hlv)
    obtain ⟨ln, hln⟩ : ∃ ln, l.length = ln := ⟨_, rfl⟩
    rw [hln] at i4 i5
    have q1 : W.cell? ⟨L, 0, none⟩ = some (.int .i64 (lv : Int)) := (cell_of_row _ _ 0 _ _ _ i4).trans rfl
    have q2 : W.cell? ⟨L, 1, none⟩ = some (.slice aa ln ca) := (cell_of_row _ _ 1 _ _ _ i4).trans rfl
    have y1 : W.cell? ⟨B1, 0, none⟩ = some (.int .i64 0) := (cell_of_row _ _ 0 _ _ _ d1).trans rfl
    have y2 : W.cell? ⟨B1, 1, none⟩ = some (.slice none 0 0) := (cell_of_row _ _ 1 _ _ _ d1).trans rfl
    have y3 : W.cell? ⟨B2, 0, none⟩ = some (.int .i64 0) := (cell_of_row _ _ 0 _ _ _ d2).trans rfl
    have y4 : W.frozen? ⟨B1, 0, none⟩ = false := by simp [World.frozen?, d1]
    have y5 : W.frozen? ⟨B1, 1, none⟩ = false := by simp [World.frozen?, d1]
    have y6 : W.frozen? ⟨B2, 0, none⟩ = false := by simp [World.frozen?, d2]
    have hB12 : ¬ B1 = B2 := by omega
    have hB21 : ¬ B2 = B1 := by omega
    obtain ⟨W8, hW8⟩ : ∃ W8, ((W.setCell ⟨B1, 0, none⟩ (.int .i64 (lv : Int))).setCell ⟨B1, 1, none⟩ (.slice aa ln ca)).setCell ⟨B2, 0, none⟩ (.int .i64 0) = W8 := ⟨_, rfl⟩
    have h8 : KeptIn (fun k => k ≠ B1 ∧ k ≠ B2) W W8 := by
      rw [← hW8]
      exact (((KeptIn.refl _ W).setCell (p := ⟨B1, 0, none⟩) (by simp) _).setCell (p := ⟨B1, 1, none⟩) (by simp) _).setCell (p := ⟨B2, 0, none⟩) (by simp) _
    have h8s : W8.heap.size = W.heap.size := by rw [← hW8]; simp
    have h8a : W8.heap[B1]? = some (.cells #[.int .i64 (lv : Int), .slice aa ln ca] 27 (0, 0)) := by
      rw [← hW8]
      have y1 : (W.setCell ⟨B1, 0, none⟩ (.int .i64 (lv : Int))).heap[B1]? = _ := heap_setCell_same _ _ _ _ _ _ d1
      rw [heap_setCell_other _ _ _ _ (by simp; omega), heap_setCell_same _ _ _ _ _ _ y1]; rfl
    have h8b : W8.heap[B2]? = some (.cells #[.int .i64 0] 32 (0, 0)) := by
      rw [← hW8]
      have y1 : ((W.setCell ⟨B1, 0, none⟩ (.int .i64 (lv : Int))).setCell ⟨B1, 1, none⟩ (.slice aa ln ca)).heap[B2]? = _ := (heap_setCell_other _ _ _ _ (by simp; omega)).trans ((heap_setCell_other _ _ _ _ (by simp; omega)).trans d2)
      rw [heap_setCell_same _ _ _ _ _ _ y1]; rfl
    obtain ⟨Wf, hWf⟩ : ∃ Wf, W8.putObj Dd (.deferred none) = Wf := ⟨_, rfl⟩
    have hD1 : Dd ≠ B1 := by omega
    have hD2 : Dd ≠ B2 := by omega
    obtain ⟨hA, hblk⟩ := an_fin (R := B1) (E := B2) (Dd := Dd) HB.out.2.2.2 (by omega) (fun k h1 h2 => by rw [hXe]; exact ⟨by omega, h2, by omega⟩) h.lt ⟨by omega, by omega⟩ ⟨by omega, by omega⟩ i1 i2 i3 hkI hK hDd h8 h8s hWf
    have hKd : W8.heap[Dd]? = some (.deferred (some [])) := (h8.block Dd ⟨hD1, hD2⟩).trans hK
    have f1 : Wf.heap[B1]? = some (.cells #[.int .i64 (lv : Int), .slice aa ln ca] 27 (0, 0)) := by rw [← hWf]; exact (World.putObj_heap_other (Ne.symm hD1)).trans h8a
    have f2 : Wf.heap[B2]? = some (.cells #[.int .i64 0] 32 (0, 0)) := by rw [← hWf]; exact (World.putObj_heap_other (Ne.symm hD2)).trans h8b
    have hrowf : Wf.ownsRow w.heap.size 82 2 (.slice aa ln ca) ln (cellsP l) := rowS_block i5 fun g9 e => by
      have hc := row_isC i5 g9 e
      have h1 := (rowS_lt i5 g9 e).1
      refine hblk g9 hc ?_ ?_
      · intro e9
        rw [e9] at hc
        rcases i5.2 with ⟨e1, _⟩ | ⟨g1, cap1, cur, e1, _, hcc, _⟩
        · rw [e1] at e; cases e
        · rw [e1] at e
          simp only [Value.ownBlock, Option.some.injEq] at e
          rw [e, e9, d1] at hcc
          simp at hcc
      · intro e9
        rw [e9] at hc
        rcases i5.2 with ⟨e1, _⟩ | ⟨g1, cap1, cur, e1, _, hcc, _⟩
        · rw [e1] at e; cases e
        · rw [e1] at e
          simp only [Value.ownBlock, Option.some.injEq] at e
          rw [e, e9, d2] at hcc
          simp at hcc
    have HE := Lib.hid (And.intro hKd (And.intro hA (And.intro f1 (And.intro f2 (And.intro hrowf (And.intro hfl hln))))))
    have HW8 := Lib.hid (And.intro hW8 hWf)
    clear hKd hA f1 f2 hrowf hfl hln hW8 hWf h8 h8s h8a h8b hblk i1 i2 i3 i4 i5 hkI hK hu cu1 cu2 hlv htk d1 d2 hWsz h hst hAC hok hNc hk1 b0 b1 b2 hnl hnn hzl hB hB1 hB2 hsz1 hgB hws hl hcap hcm hXe hsw hBL hsz0 hL1 HI0 HS HX HB H HF0 HM9 hXl2 hXlt hl100 hN1 hD1 hD2 hDd
    gi_wp2
    rw [HW8.out.1]
    refine ⟨by simp, .inl ⟨_, _, rfl, run_takeDeferred HE.out.1, ?_⟩⟩
    rw [HW8.out.2]
    have g1 : Wf.cell? ⟨B1, 0, none⟩ = some (.int .i64 (lv : Int)) := (cell_of_row _ _ 0 _ _ _ HE.out.2.2.1).trans rfl
    have g2 : Wf.cell? ⟨B1, 1, none⟩ = some (.slice aa ln ca) := (cell_of_row _ _ 1 _ _ _ HE.out.2.2.1).trans rfl
    have g3 : Wf.cell? ⟨B2, 0, none⟩ = some (.int .i64 0) := (cell_of_row _ _ 0 _ _ _ HE.out.2.2.2.1).trans rfl
    refine ⟨.tuple #[leafV (lv : Int) aa ln ca, .int .i64 0], ?_, ?_⟩
    · simp [results, Try.f38, go_sem, g1, g2, g3, leafV]
    · rw [HCU.out.1]
      refine ⟨⟨aa, ca, ?_, ?_, HE.out.2.2.2.2.2.1⟩, HE.out.2.1⟩
      · rw [HE.out.2.2.2.2.2.2, ← HCU.out.2]
      · rw [HE.out.2.2.2.2.2.2]; exact HE.out.2.2.2.2.1
  case stop =>
    rintro Dd c pre W hDd ⟨q, hq, rfl⟩ ⟨rfl, N1, D', hu, i1, i2, i3, h6, h7, hkI⟩ hK
    obtain ⟨h, hst, hAC, hok, hNc, hk1, b0, b1, b2, hnl, hnn, hzl, hB, hB1, hB2, hsz1, hgB, hws, hk, hl, hcap, hcm⟩ := H.out
    obtain ⟨hXe, _, hsw, hBL, hsz0, _, _, _, hL1⟩ := HX.out
    subst hk
    rw [steps_all hws hkn _ hq] at hu
    have hu2 := upM_none (min room 511) (init.reverse.drop (q + 1)) _ _ _ _ _ hu
    rw [List.take_append_drop] at hu2
    obtain ⟨cu1, cu2⟩ := climb_up (min room 511) xs N z init
    rw [← hws, hu2] at cu1
    have cu3 : climbM (min room 511) ws xs N = (none, N1) := cu1
    obtain ⟨Wf, hWf⟩ : ∃ Wf, W.putObj Dd (.deferred none) = Wf := ⟨_, rfl⟩
    have hA : AddTo w s room D N1 Wf := an_stop (R := B1) (E := B2) (Dd := Dd) HB.out.2.2.2 (by omega) (X := fun k => X k ∧ k ≠ B1 ∧ k ≠ B2) (fun k h1 h2 => by rw [hXe]; exact ⟨⟨by omega, h2, by omega⟩, by omega, by omega⟩) i1 i2 i3 hkI hK hDd hWf
    have f1 : Wf.heap[B1]? = some (.cells #[.int .i64 0, .slice none 0 0] 27 (0, 0)) := by rw [← hWf]; exact (World.putObj_heap_other (by omega)).trans h6
    have f2 : Wf.heap[B2]? = some (.cells #[.int .i64 6] 32 (0, 0)) := by rw [← hWf]; exact (World.putObj_heap_other (by omega)).trans h7
    have HE := Lib.hid (And.intro hK (And.intro hA (And.intro f1 (And.intro f2 (And.intro cu3 hWf)))))
    clear hA f1 f2 hWf i1 i2 i3 hkI hK hu hu2 cu1 cu2 cu3 h6 h7 h hst hAC hok hNc hk1 b0 b1 b2 hnl hnn hzl hB hB1 hB2 hsz1 hgB hws hl hcap hcm hXe hsw hBL hsz0 hL1 HI0 HS HX HB H HF0 HM9 hXl2 hXlt hDd
    gi_wp2
    refine ⟨by simp, .inl ⟨_, _, rfl, run_takeDeferred HE.out.1, ?_⟩⟩
    rw [HE.out.2.2.2.2.2]
    have g1 : Wf.cell? ⟨B1, 0, none⟩ = some (.int .i64 0) := (cell_of_row _ _ 0 _ _ _ HE.out.2.2.1).trans rfl
    have g2 : Wf.cell? ⟨B1, 1, none⟩ = some (.slice none 0 0) := (cell_of_row _ _ 1 _ _ _ HE.out.2.2.1).trans rfl
    have g3 : Wf.cell? ⟨B2, 0, none⟩ = some (.int .i64 6) := (cell_of_row _ _ 0 _ _ _ HE.out.2.2.2.1).trans rfl
    refine ⟨.tuple #[leafV 0 none 0 0, .int .i64 6], ?_, ?_⟩
    · simp [results, Try.f38, go_sem, g1, g2, g3, leafV]
    · rw [HE.out.2.2.2.2.1]
      exact ⟨rfl, HE.out.2.1⟩

end Go.Proofs.Ytdbohcdjamhdjaa
