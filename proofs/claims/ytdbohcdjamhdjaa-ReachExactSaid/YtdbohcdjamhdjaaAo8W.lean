import Derived.Test.YtdbohcdjamhdjaaAn8W
/- Package tree's addNodes: the walk. -/
set_option linter.unusedVariables false
namespace Go.Proofs.Ytdbohcdjamhdjaa
open Go.RowKit Go.Shelf
attribute [local go_sem] Oper.semAt_some
attribute [local go_sem ↓] appS_eq

/-- So many came, or none. -/
def CntOk (n c k : Nat) : Prop := k = 0 ∨ n + k ≤ c
/-- A round left: there was no room. -/
def AnX (W0 : World) (s room R E lv m : Nat) (D X : Nat → Prop) (N : List Nd) (l : Pairs) (c : Code) (pre : List (PartN m l.length)) (W : World) : Prop :=
  c = .ret ∧ ∃ ini last, pre = ini ++ [last] ∧ (∃ D', IsSh W s room (N ++ nodesP lv m l ini) D' ∧ (∀ k, D' k → IsC W k) ∧ (∀ k, D' k → D k ∨ W0.heap.size ≤ k)) ∧ min room 511 ≤ N.length + ini.length ∧ CntOk N.length (min room 511) ini.length ∧
    W.heap[R]? = some (.cells #[.slice none 0 0] 25 (0, 0)) ∧ W.heap[E]? = some (.cells #[.int .i64 6] 32 (0, 0)) ∧ KeptIn (fun k => X k ∧ k ≠ R ∧ k ≠ E) W0 W

theorem AnX.own {W0 : World} {s room R E lv m : Nat} {D X : Nat → Prop} {N : List Nd} {l : Pairs} (c : Code) (hX : ∀ k, X k → k < W0.heap.size) : OwnFrom W0.heap.size (AnX W0 s room R E lv m D X N l c) := by
  rintro pre W W' row ⟨hc, ini, last, e, ⟨D', h1, h2, h3⟩, h4, h5, h6, h7, hk⟩ hg hr
  have hb := fun k (hk : IsC W k) => own_block (r := 0) hg hr hk
  exact ⟨hc, ini, last, e, ⟨D', h1.kept ⟨hg.os, hg.tape, hg.output, hg.size, fun k hd => hb k (h2 k hd)⟩, fun k hd => (h2 k hd).eq (hb k (h2 k hd)), h3⟩, h4, h5, (hb _ ⟨_, _, _, h6⟩).trans h6, (hb _ ⟨_, _, _, h7⟩).trans h7,
    hk.trans ⟨hg.os, hg.tape, hg.output, hg.size, fun k hx => hg.block k (Nat.lt_of_lt_of_le (hX k hx.1) hk.size) fun e => by
      have := (hr k e.symm).1
      have := hX k hx.1
      omega⟩⟩

theorem an_frame {W V V2 : World} {s : Nat} (h : KeptIn (· < W.drew.heap.size) W.drew V) (k : KeptIn (fun k => k < V.heap.size ∧ k ≠ s) V V2) : KeptIn (fun k => k < W.heap.size ∧ k ≠ s) W V2 :=
  ((KeptIn.refl (fun k => k < W.heap.size ∧ k ≠ s) W).drew.trans ⟨h.os, h.tape, h.output, h.size, fun k hk => h.block k hk.1⟩).trans (k.mono fun k hk => ⟨Nat.lt_of_lt_of_le hk.1 h.size, hk.2⟩)

set_option maxRecDepth 100000 in
set_option maxHeartbeats 4000000 in
theorem trNodes {w : World} {s room : Nat} {N : List Nd} {D : Nat → Prop} (h : IsSh w s room N D) (lv m b off cap : Nat) (a : Option Addr) (l : Pairs) (ha : 0 < l.length → a = some ⟨b, off, none⟩) (hps : IsPs w a l) (hcap : l.length ≤ cap) (hcm : cap ≤ maxLen) (hne : b ≠ s) (hm : 0 < m) (hm15 : m ≤ 15) (hl : l.length ≤ 1000) (hNc : N.length ≤ min room 511) :
    Calls Try.prog 56 #[pgV s, .int .i64 (lv : Int), .slice a l.length cap, .int .i64 (m : Int)] w (NodesS w s room D (nodesM (min room 511) lv m l N)) := by
  have hmx : Try.prog.follows .mixedOrders = true := by kernel_rfl
  refine (callsIn_wide (n := 3)).1 ?_
  refine callsIn_of_wp_marks Try.func56 rfl trivial ?_ rfl
  simp only [Try.ntmps56, pgV, List.size_toArray, List.length_cons, List.length_nil, Nat.reduceAdd, Nat.reduceSub, Array.replicate_succ, Array.replicate_zero, List.push_toArray, List.append_toArray, List.nil_append, List.cons_append]
  obtain ⟨len, hlen⟩ : ∃ len, l.length = len := ⟨_, rfl⟩
  have H := Lib.hid (And.intro h (And.intro ha (And.intro hps (And.intro hcap (And.intro hcm (And.intro hne (And.intro hm (And.intro hm15 (And.intro hl hlen)))))))))
  rw [hlen]
  clear h ha hps hcap hcm hne hl
  gi_wp2_with (refine ⟨trivial, ?_⟩; gi_at_call 76; refine (pChunk 2 a len cap m hm _).mono ?_; rintro e w' ⟨rfl, rfl⟩)
  obtain ⟨B, hB⟩ : ∃ B, w.heap.size = B := ⟨_, rfl⟩
  obtain ⟨W0, hW0⟩ : ∃ W0, allocL w [.cells #[.iface 28 (.pointer (some ⟨s, 0, none⟩))] 63, .cells #[.int .i64 (lv : Int)] 3, .cells #[.slice none 0 0] 25, .cells #[.int .i64 0] 32, .cells #[.slice none 0 0] 25, .cells #[.slice a len cap] 25, .cells #[.int .i64 (m : Int)] 3] = W0 := ⟨_, rfl⟩
  have hsz : W0.heap.size = B + 7 := by rw [← hW0, allocL_size, hB]; rfl
  have hk0 : KeptIn (· < w.heap.size) w W0 := by rw [← hW0]; exact allocL_kept _ _
  have hat := fun i => allocL_at [.cells #[.iface 28 (.pointer (some ⟨s, 0, none⟩))] 63, .cells #[.int .i64 (lv : Int)] 3, .cells #[.slice none 0 0] 25, .cells #[.int .i64 0] 32, .cells #[.slice none 0 0] 25, .cells #[.slice a len cap] 25, .cells #[.int .i64 (m : Int)] 3] w i
  rw [hW0, hB] at hat
  obtain ⟨B1, hB1⟩ : ∃ x, B + 1 = x := ⟨_, rfl⟩
  obtain ⟨B2, hB2⟩ : ∃ x, B1 + 1 = x := ⟨_, rfl⟩
  obtain ⟨B3, hB3⟩ : ∃ x, B2 + 1 = x := ⟨_, rfl⟩
  obtain ⟨B4, hB4⟩ : ∃ x, B3 + 1 = x := ⟨_, rfl⟩
  obtain ⟨B5, hB5⟩ : ∃ x, B4 + 1 = x := ⟨_, rfl⟩
  obtain ⟨B6, hB6⟩ : ∃ x, B5 + 1 = x := ⟨_, rfl⟩
  have b0 : W0.heap[B]? = _ := hat 0 (by simp)
  have b1 : W0.heap[B1]? = _ := (show B1 = B + 1 by omega) ▸ hat 1 (by simp)
  have b2 : W0.heap[B2]? = _ := (show B2 = B + 2 by omega) ▸ hat 2 (by simp)
  have b3 : W0.heap[B3]? = _ := (show B3 = B + 3 by omega) ▸ hat 3 (by simp)
  have b4 : W0.heap[B4]? = _ := (show B4 = B + 4 by omega) ▸ hat 4 (by simp)
  have b5 : W0.heap[B5]? = _ := (show B5 = B + 5 by omega) ▸ hat 5 (by simp)
  have b6 : W0.heap[B6]? = _ := (show B6 = B + 6 by omega) ▸ hat 6 (by simp)
  clear hat
  have hW0' := hW0
  simp only [allocL, List.foldl_cons, List.foldl_nil] at hW0'
  rw [hW0']
  simp only [hB, hB1, hB2, hB3, hB4, hB5, hB6]
  obtain ⟨X, hXe⟩ : ∃ X : Nat → Prop, X = fun k => k < W0.heap.size ∧ k ≠ s ∧ k ≠ B4 := ⟨_, rfl⟩
  have hXlt : ∀ k, X k → k < W0.heap.size := fun k hk => by rw [hXe] at hk; exact hk.1
  have hsB : s < B := by rw [← hB]; exact H.out.1.lt s H.out.1.ds
  have hX5 : X B5 := by rw [hXe]; exact ⟨by omega, by omega, by omega⟩
  have hX6 : X B6 := by rw [hXe]; exact ⟨by omega, by omega, by omega⟩
  subst hlen
  obtain ⟨h, ha, hps, hcap, hcm, hne, _, _, hl, _⟩ := H.out
  have hstops := pChunk_stops 2 (by omega) B5 B6 b off m l.length cap a ha X hX5 hX6 hm (Nat.le_trans hm15 (by decide)) hl hcap hcm W0 b5 b6
  have hI0 : AnI W0 s room B4 D X (N ++ nodesP lv m l []) (leadsP N.length m l []) W0 := by
    have hc := (h.old hk0).cells
    refine ⟨⟨fun k => D k ∧ IsC W0 k, none, 0, ?_, fun k hk => hk.2, fun k hk => .inl hk.1, b4, ⟨rfl, .inl ⟨rfl, rfl⟩⟩, fun g e => by cases e⟩, KeptIn.refl _ _⟩
    rw [show N ++ nodesP lv m l [] = N by simp [nodesP]]
    exact hc
  have HX := Lib.hid (And.intro hXe (And.intro hXlt (And.intro hsB (And.intro hsz (And.intro hB (And.intro hB1 (And.intro hB2 (And.intro hB3 (And.intro hB4 (And.intro hB5 hB6))))))))))
  have HB := Lib.hid (And.intro b0 (And.intro b1 (And.intro b2 (And.intro b3 hk0))))
  have hXl2 := hXlt
  have hsz2 : W0.heap.size ≤ W0.heap.size := Nat.le_refl _
  clear hX5 hX6 b0 b1 b2 b3 b4 b5 b6 h ha hps hcap hcm hne hl hW0 hW0' hXe hsB hB hB1 hB2 hB3 hB4 hB5 hB6 hsz
  refine wpIn_rangeFunc_ownG_of_H rfl (by omega) (gf := 91) (lb := #[.pointer (some ⟨B5, 0, none⟩), .pointer (some ⟨B6, 0, none⟩)]) rfl trivial (enters_of Try.func91 (by kernel_rfl) rfl)
    hstops (fun h k => h.trans k) (fun W l' o o' hl' _ _ _ => KeptIn.putObj (fun hx => absurd (hXlt _ hx) (by omega)) o') (Below.refl _ _) (fun _ => rfl)
    (fun pre W => AnI W0 s room B4 D X (N ++ nodesP lv m l pre) (leadsP N.length m l pre) W ∧ CntOk N.length (min room 511) pre.length)
    (AnX W0 s room B2 B3 lv m D X N l)
    (fun pre W W' row hs hg hr => ⟨hs.1.own hXlt hg hr, hs.2⟩)
    (fun c => AnX.own c hXlt)
    ⟨hI0, .inl rfl⟩
    (fun x => { tmps := #[.iface 28 (.pointer (some ⟨s, 0, none⟩)), .int .i64 (lv : Int), .slice a l.length cap, .int .i64 (m : Int), .pointer (some ⟨B, 0, none⟩), .pointer (some ⟨B1, 0, none⟩), undef, undef, .pointer (some ⟨B2, 0, none⟩), .pointer (some ⟨B3, 0, none⟩), .pointer (some ⟨B4, 0, none⟩), .slice (some ⟨b, off + m * x.1 * 2, none⟩) (min m (l.length - m * x.1)) (min m (l.length - m * x.1)),
      undef, undef, .slice a l.length cap, .int .i64 (m : Int), .func (.func 91) #[] #[.pointer (some ⟨B5, 0, none⟩), .pointer (some ⟨B6, 0, none⟩)], .slice (some ⟨b, off + m * x.1 * 2, none⟩) (min m (l.length - m * x.1)) (min m (l.length - m * x.1)),
      undef, undef, undef, undef, undef, undef, undef, undef, undef, undef, undef, undef, undef, undef, undef, undef, undef, undef, undef, undef, undef, undef, undef], defers := [] })
    ?assign ?body ?done ?stop (KeptIn.refl X)
  case assign =>
    intro l' x W K hK
    unfold encJ
    gi_wp2
    exact hK
  case body =>
    rintro l' pre x W ⟨hI, hcnt⟩ hpre
    obtain ⟨⟨D1, a1, c1, i1, i2, i3, i4, i5, i6⟩, hkI⟩ := hI
    obtain ⟨h, ha, hps, hcap, hcm, hne, _, _, hl, _⟩ := H.out
    obtain ⟨hXe, hXlt, hsB, hsz, hB, hB1, hB2, hB3, hB4, hB5, hB6⟩ := HX.out
    obtain ⟨e0, e1⟩ := partL_pos hm x
    obtain ⟨p, hp⟩ : ∃ p, partL m l x = p := ⟨_, rfl⟩
    have hmem : IsPs W (some ⟨b, off + m * x.1 * 2, none⟩) p := by
      have hl0 : 0 < l.length := Nat.lt_of_le_of_lt (Nat.zero_le _) x.2
      have := hps
      rw [ha hl0] at this
      rw [← hp]
      refine psSub (psAt (X := fun k => k < B ∧ k ≠ s) this ?_ fun q e => ?_) _ _
      · exact (HB.out.2.2.2.2.mono fun k hk => by rw [hB]; exact hk.1).trans (hkI.mono fun k hk => by rw [hXe]; exact ⟨by omega, hk.2, by omega⟩)
      · cases e
        obtain ⟨b', off', e', hb', _⟩ := this.cells hl0
        cases e'
        exact ⟨by rw [← hB]; exact hb', hne⟩
    obtain ⟨e, he⟩ : ∃ e, min m (l.length - m * x.1) = e := ⟨_, rfl⟩
    rw [he] at e1 ⊢
    rw [hp] at e0 e1
    have hpl : p.length ≤ 1000 := by rw [e1, ← he]; omega
    obtain ⟨o, ho⟩ : ∃ o, off + m * x.1 * 2 = o := ⟨_, rfl⟩
    rw [ho] at hmem ⊢
    have hWsz : W0.heap.size ≤ W.heap.size := hkI.size
    have d0 : W.heap[B]? = _ := (hkI.block B (by rw [hXe]; exact ⟨by omega, by omega, by omega⟩)).trans HB.out.1
    have d1 : W.heap[B1]? = _ := (hkI.block B1 (by rw [hXe]; exact ⟨by omega, by omega, by omega⟩)).trans HB.out.2.1
    have d2 : W.heap[B2]? = _ := (hkI.block B2 (by rw [hXe]; exact ⟨by omega, by omega, by omega⟩)).trans HB.out.2.2.1
    have d3 : W.heap[B3]? = _ := (hkI.block B3 (by rw [hXe]; exact ⟨by omega, by omega, by omega⟩)).trans HB.out.2.2.2.1
    have HV : Hid (∀ V, KeptIn (fun k => k < W.heap.size ∧ k ≠ s) W V → V.cell? ⟨B, 0, none⟩ = some (.iface 28 (.pointer (some ⟨s, 0, none⟩))) ∧ V.cell? ⟨B1, 0, none⟩ = some (.int .i64 (lv : Int)) ∧ V.heap[B2]? = some (.cells #[.slice none 0 0] 25 (0, 0)) ∧ V.heap[B3]? = some (.cells #[.int .i64 0] 32 (0, 0)) ∧ V.heap[B4]? = some (.cells #[.slice a1 (leadsP N.length m l pre).length c1] 25 (0, 0))) := Lib.hid fun V hV => by
      have q0 := (hV.block B ⟨by omega, by omega⟩).trans d0
      have q1 := (hV.block B1 ⟨by omega, by omega⟩).trans d1
      exact ⟨by simp [World.cell?, q0], by simp [World.cell?, q1], (hV.block B2 ⟨by omega, by omega⟩).trans d2, (hV.block B3 ⟨by omega, by omega⟩).trans d3, (hV.block B4 ⟨by omega, by omega⟩).trans i4⟩
    have CL := Lib.hid fun V (hk : KeptIn (· < W.heap.size) W V) => pClone (some ⟨b, o, none⟩) e p V (hmem.old hk) e0 (Nat.le_trans hpl (by decide))
    have HI := Lib.hid (And.intro i1 (And.intro i2 (And.intro i3 (And.intro i5 (And.intro i6 (And.intro hkI (And.intro hcnt (And.intro hWsz hpl))))))))
    have HM := Lib.hid hmem
    have HP := Lib.hid (And.intro hp (And.intro e0 (And.intro e1 (And.intro he ho))))
    have hF := hmem.fits
    obtain ⟨c0, c1', _⟩ := HV.out W.drew ((KeptIn.refl _ _).drew)
    rw [e1] at CL
    have hd : 1 ≤ 3 - 1 - 1 := by decide
    clear i1 i2 i3 i4 i5 i6 hkI hcnt hWsz hpl d0 d1 d2 d3 e0 e1 hp he ho hmem h ha hps hcap hcm hne hl hXe hXlt hsB hsz hB hB1 hB2 hB3 hB4 hB5 hB6
    obtain ⟨n9, er, N2, hR9⟩ : ∃ (n9 er : Nat) (N2 : List Nd), ((N ++ nodesP lv m l pre).length < min room 511 ∧ (N ++ nodesP lv m l pre).length + 1 = n9 ∧ er = 0 ∧ N2 = N ++ nodesP lv m l pre ++ [(lv, p)]) ∨ (min room 511 ≤ (N ++ nodesP lv m l pre).length ∧ n9 = 0 ∧ er = 6 ∧ N2 = N ++ nodesP lv m l pre) := by
      rcases Nat.lt_or_ge (N ++ nodesP lv m l pre).length (min room 511) with h | h
      · exact ⟨_, _, _, .inl ⟨h, rfl, rfl, rfl⟩⟩
      · exact ⟨_, _, _, .inr ⟨h, rfl, rfl, rfl⟩⟩
    have CA := Lib.hid fun V (hk : KeptIn (· < W.heap.size) W V) g cg (hps : IsPs V (some ⟨g, 0, none⟩) p) => (show Calls Try.prog 77 #[pgV s, leafV (lv : Int) (some ⟨g, 0, none⟩) p.length cg] V (fun e' w' => ∃ D2, e' = .returned (.tuple #[.int .i64 (n9 : Int), .int .i64 (er : Int)]) ∧ IsSh w' s room N2 D2 ∧ (∀ k, D2 k → D1 k ∨ V.heap.size ≤ k) ∧ KeptIn (fun k => k < V.heap.size ∧ k ≠ s) V w') by
      rcases hR9 with ⟨h1, h2, rfl, rfl⟩ | ⟨h1, rfl, rfl, rfl⟩
      · exact (trAdd (HI.out.1.old hk) h1 lv (some ⟨g, 0, none⟩) cg p hps HP.out.2.1 HI.out.2.2.2.2.2.2.2.2).mono fun e' w' ⟨D2, h3, h4⟩ => ⟨D2, by rw [← h2]; exact h3, h4⟩
      · exact (trAddFull (HI.out.1.old hk) h1 lv (some ⟨g, 0, none⟩) cg p).mono fun e' w' ⟨h3, h4⟩ => ⟨D1, h3, (HI.out.1.old hk).old h4, fun k hd => .inl hd, h4.mono fun k hk => hk.1⟩)
    have HR9 := Lib.hid hR9
    clear hR9
    unfold leafV pgV at CA
    gi_wp2
    refine wpIn_mono (Q := fun e' a' w' => e' = .normal ∧ ∃ D2 u18 u19 u20 u21 u22 u23 u24 u25 u26, a' = { tmps := #[.iface 28 (.pointer (some ⟨s, 0, none⟩)), .int .i64 (lv : Int), .slice a l.length cap, .int .i64 (m : Int), .pointer (some ⟨B, 0, none⟩), .pointer (some ⟨B1, 0, none⟩), undef, undef, .pointer (some ⟨B2, 0, none⟩), .pointer (some ⟨B3, 0, none⟩), .pointer (some ⟨B4, 0, none⟩), .slice (some ⟨b, o, none⟩) e e,
      .int .i64 (n9 : Int), .int .i64 (er : Int), .slice a l.length cap, .int .i64 (m : Int), .func (.func 91) #[] #[.pointer (some ⟨B5, 0, none⟩), .pointer (some ⟨B6, 0, none⟩)], .slice (some ⟨b, o, none⟩) e e,
      u18, u19, u20, u21, u22, u23, u24, u25, u26, undef, undef, undef, undef, undef, undef, undef, undef, undef, undef, undef, undef, undef, undef], defers := [] } ∧ IsSh w' s room N2 D2 ∧ (∀ k, D2 k → D1 k ∨ W.heap.size ≤ k) ∧ KeptIn (fun k => k < W.heap.size ∧ k ≠ s) W w') ?_ ?_
    · gi_region_with_o (first
        | (refine ⟨trivial, ?_⟩; gi_at_call 78; refine (CallsIn.inRound l' (callsIn_wide.2 (CL.out _ ((KeptIn.refl _ _).drew)))).mono ?_; rintro e' V ⟨g, cg, rfl, hrow, hkV⟩; obtain ⟨c2, c3, _⟩ := HV.out V (((KeptIn.refl _ _).drew.trans ⟨hkV.os, hkV.tape, hkV.output, hkV.size, fun k hk => hkV.block k hk.1⟩)))
        | (refine ⟨trivial, ?_⟩; gi_at_call 77; refine (CallsIn.inRound l' (callsIn_wide.2 (CA.out _ ((KeptIn.refl _ _).drew.go hkV) g cg (row_IsPs hrow hF)))).mono ?_; rintro e' V2 ⟨D2, rfl, hsh, hD2, hk2⟩))
      all_goals exact ⟨rfl, D2, _, _, _, _, _, _, _, _, _, rfl, hsh, fun k hk => (hD2 k hk).imp id fun h => Nat.le_trans hkV.size h, an_frame hkV hk2⟩
    · rintro e' a' V2 ⟨rfl, D2, u18, u19, u20, u21, u22, u23, u24, u25, u26, rfl, hsh, hD2, hk2⟩
      rcases HR9.out with ⟨hroom, hn9, rfl, rfl⟩ | ⟨hroom, rfl, rfl, rfl⟩
      · have HN9 := Lib.hid hn9
        clear hn9 CA HR9
        simp only [Exit.then]
        obtain ⟨q0, q1, q2, q3, q4⟩ := HV.out V2 hk2
        obtain ⟨i1, i2, i3, i5, i6, hkI, hcnt, hWsz, hpl⟩ := HI.out
        obtain ⟨hXe, hXlt, hsB, hsz, hB, hB1, hB2, hB3, hB4, hB5, hB6⟩ := HX.out
        obtain ⟨hp, e0, e1, he, ho⟩ := HP.out
        have q5 : V2.cell? ⟨b, o, none⟩ = some (.int .u64 (keyAt p 0 : Int)) := by
          obtain ⟨b', off', e', hb', hc'⟩ := HM.out.cells e0
          cases e'
          have := (hc' 0 e0).1
          rw [Nat.zero_mul, Nat.add_zero] at this
          exact (World.cell?_of_block (a := ⟨b, o, none⟩) (hk2.block b ⟨hb', H.out.2.2.2.2.2.1⟩)).trans this
        have q6 : V2.cell? ⟨B4, 0, none⟩ = some (.slice a1 (leadsP N.length m l pre).length c1) := by simp [World.cell?, q4]
        have hln9 : n9 ≤ 512 := by have := HN9.out; omega
        have q8 : IntKind.u64.wrap (n9 : Int) = (n9 : Int) := by rw [IntKind.wrap_u64]; omega
        have q9 : (0 : Int) < (e : Int) := by omega
        have q10 : 0 < e := by omega
        obtain ⟨k0, hk0'⟩ : ∃ k0, keyAt p 0 = k0 := ⟨_, rfl⟩
        rw [hk0'] at q5
        obtain ⟨ls, hls⟩ : ∃ ls, leadsP N.length m l pre = ls := ⟨_, rfl⟩
        have hlsl : ls.length = pre.length := by rw [← hls]; exact leadsP_length ..
        rw [hls] at q6 i5 i6
        have i4 : W.heap[B4]? = some (.cells #[.slice a1 ls.length c1] 25 (0, 0)) := by
          have := (HV.out W (KeptIn.refl _ _)).2.2.2.2
          rw [hls] at this
          exact this
        obtain ⟨V3, hV3⟩ : ∃ V3, (V2.alloc (.cells #[.int .u64 (k0 : Int), .int .u64 (n9 : Int)] 82)).drew = V3 := ⟨_, rfl⟩
        have hkA : KeptIn (· < V2.heap.size) V2 V3 := by rw [← hV3]; exact ((KeptIn.refl _ V2).alloc (fun _ h => h) _).drew
        have hnb : V3.heap[V2.heap.size]? = some (.cells #[.int .u64 (k0 : Int), .int .u64 (n9 : Int)] 82 (0, 0)) := by rw [← hV3]; exact heap_alloc_new V2 _
        have hown3 : V3.ownsRow W0.heap.size 82 2 (.slice a1 ls.length c1) ls.length (cellsP ls) := rowS_block i5 fun g1 e1 => by
          obtain ⟨z1, z2⟩ := rowS_lt i5 g1 e1
          exact (hkA.block g1 (Nat.lt_of_lt_of_le z2 hk2.size)).trans (hk2.block g1 ⟨z2, by omega⟩)
        obtain ⟨ii, hii, hz0, hz1, hz2⟩ := info_parts infoPair
        have hb3 : W0.heap.size ≤ V3.heap.size := Nat.le_trans hWsz (Nat.le_trans hk2.size hkA.size)
        have hpl1 : ls.length + 1 ≤ 1000 := by
          have h1 := i1.len
          rw [List.length_append, nodesP_length] at h1
          omega
        obtain ⟨g, cap', w', hr, hown, hgrow, hg, hgl⟩ := run_append_lies (P := Try.prog) V3 25 25 W0.heap.size 82 ii _ 2 16 Try.underlying25 hii hz0 hz1 hz2 rfl (by decide) _ _ _ hown3 ⟨V2.heap.size, 0, none⟩ 1 1 [.int .u64 (k0 : Int), .int .u64 (n9 : Int)] rfl (World.news_of_block hnb) (by simp [Value.oneCell']) (by decide) (by unfold maxLen; omega) (by omega) hb3 _ rfl
        rw [appS_eq, ← hV3] at hr
        have hr4 : w'.heap[B4]? = some (.cells #[.slice a1 ls.length c1] 25 (0, 0)) := by
          have h1 : V2.heap[B4]? = some (.cells #[.slice a1 ls.length c1] 25 (0, 0)) := by rw [← hls]; exact q4
          have h2 := (Array.getElem?_eq_some_iff.1 h1).1
          refine (hgrow.block B4 (Nat.lt_of_lt_of_le h2 hkA.size) fun e1 => ?_).trans ((hkA.block B4 h2).trans h1)
          have := (rowS_lt i5 B4 e1.symm).1
          omega
        have hmore := AnI.more (gg := 0) (fun k => by rw [hXe]) (fun k hd => by have := H.out.1.lt k hd; rw [hB] at this; omega) (by omega) (by omega) (by omega) i1 i3 i5 i6 hkI i4 hsh hD2 hk2 hV3 hown hgrow hg
        have r1 : w'.cell? ⟨B4, 0, none⟩ = some (.slice a1 ls.length c1) := by simp [World.cell?, hr4]
        have r2 : w'.frozen? ⟨B4, 0, none⟩ = false := by simp [World.frozen?, hr4]
        have r3 : (V2.alloc (.cells #[.int .u64 (k0 : Int), .int .u64 (n9 : Int)] 82)).cell? ⟨B4, 0, none⟩ = some (.slice a1 ls.length c1) := (World.cell?_of_block (a := ⟨B4, 0, none⟩) (Lib.alloc_old V2 _ B4 (Array.getElem?_eq_some_iff.1 q4).1)).trans q6
        have hm2 : (AnI W0 s room B4 D X (N ++ nodesP lv m l (pre ++ [x])) (leadsP N.length m l (pre ++ [x])) (w'.setCell ⟨B4, 0, none⟩ (.slice (some ⟨g, 0, none⟩) (ls.length + 1) cap'))) ∧ KeptIn X W (w'.setCell ⟨B4, 0, none⟩ (.slice (some ⟨g, 0, none⟩) (ls.length + 1) cap')) ∧ KeepsFrom W0.heap.size W (w'.setCell ⟨B4, 0, none⟩ (.slice (some ⟨g, 0, none⟩) (ls.length + 1) cap')) ∧ CntOk N.length (min room 511) (pre ++ [x]).length := by
          refine ⟨?_, hmore.2.1, hmore.2.2, .inr ?_⟩
          · have h1 := hmore.1
            rw [nodesP_snoc, leadsP_snoc, hls, hp, ← List.append_assoc]
            have h2 : n9 = N.length + pre.length + 1 := by rw [← HN9.out, List.length_append, nodesP_length]
            have h3 : k0 = keyAt l (m * x.1) := by
              rw [← hk0', ← hp]
              unfold partL
              rw [← keyAt_drop l (m * x.1)]
              have : 0 < ((l.drop (m * x.1)).take m).length := by have := (partL_pos hm x).1; exact this
              rw [keyAt_get this, keyAt_get (by rw [List.length_take] at this; omega), List.getElem_take]
            rw [← h2, ← h3]
            exact h1
          · rw [List.length_append, nodesP_length] at hroom
            simp; omega
        have HM2 := Lib.hid hm2
        have HR2 := Lib.hid hr
        obtain ⟨ln, hln⟩ : ∃ ln, ls.length = ln := ⟨_, rfl⟩
        rw [hln] at HR2 HM2 r1 r3 q6
        clear hmore hm2 hr hown hgrow hg hgl hr4 hnb hown3 hkA hb3 hpl1 hlsl i1 i2 i3 i4 i5 i6 hkI hcnt hWsz hpl hXe hXlt hsB hsz hB hB1 hB2 hB3 hB4 hB5 hB6 hp e0 e1 he ho q0 q1 q2 q3 q4 hsh hD2 hk2 hln9 hls hln hk0' hz0 hz1 hz2 hii hV3
        gi_wp2
        obtain ⟨W9, hW9⟩ : ∃ W9, w'.setCell ⟨B4, 0, none⟩ (.slice (some ⟨g, 0, none⟩) (ln + 1) cap') = W9 := ⟨_, rfl⟩
        refine wpIn_mono (Q := fun e' a' w9 => e' = .normal ∧ w9 = W9) ?_ ?_
        · refine wpIn_region_any hmx (any_round rfl (fun i o ho c => ?_) _ _ _ _ ?_)
          · rcases i with _ | _ | _ | _ | _ | _ | _ | _ | _ | _ | _ | i <;> first | (cases ho; intro hc; cases hc) | (simp at ho)
          change wpAnyIn _ _ _ _ _ _ _ _ _ (World.drew _)
          refine wpAnyIn_take (i := 1) (v := ?_) rfl rfl (by kernel_rfl) (by kernel_rfl) (by kernel_rfl) (fun _ _ _ h => h) ⟨Or.inl ⟨by rfl, ?_⟩, fun _ => rfl⟩ ?_
          rotate_left
          · intro _
            first | (go_simp; done) | (go_simp; with_reducible rfl)
          refine wpAnyIn_take (i := 5) (v := ?_) rfl rfl (by kernel_rfl) (by kernel_rfl) (by kernel_rfl) (fun _ _ _ h => h) ⟨Or.inl ⟨by rfl, ?_⟩, fun _ => rfl⟩ ?_
          rotate_left
          · intro _
            first | (go_simp; done) | (go_simp; with_reducible rfl)
          refine wpAnyIn_take (i := 6) (v := ?_) rfl rfl (by kernel_rfl) (by kernel_rfl) (by kernel_rfl) (fun _ _ _ h => h) ⟨Or.inl ⟨by rfl, ?_⟩, fun _ => rfl⟩ ?_
          rotate_left
          · intro _
            first | (go_simp; done) | (go_simp; with_reducible rfl)
          refine wpAnyIn_ready (rs := [0, 2]) (by kernel_rfl) (by simp) ?_
          refine AllReadyIn.cons rfl (fun K hK => ?_) (AllReadyIn.cons rfl (fun K hK => ?_) AllReadyIn.nil)
          · go_simp
            refine hK _ _ ?_
            clear hK K
            refine wpAnyIn_ready (rs := [2]) (by kernel_rfl) (by simp) ?_
            refine AllReadyIn.cons rfl (fun K hK => ?_) AllReadyIn.nil
            go_simp
            refine hK _ _ ?_
            clear hK K
            refine wpAnyIn_take (i := 3) (v := ?_) rfl rfl (by kernel_rfl) (by kernel_rfl) (by kernel_rfl) (fun _ _ _ h => h) ⟨Or.inl ⟨by rfl, ?_⟩, fun _ => rfl⟩ ?_
            rotate_left
            · intro _
              first | (go_simp; done) | (go_simp; with_reducible rfl)
            refine wpAnyIn_ready (rs := [4]) (by kernel_rfl) (by simp) ?_
            refine AllReadyIn.cons rfl (fun K hK => ?_) AllReadyIn.nil
            go_simp
            refine hK _ _ ?_
            clear hK K
            refine wpAnyIn_take (i := 7) (v := ?_) rfl rfl (by kernel_rfl) (by kernel_rfl) (by kernel_rfl) (fun _ _ _ h => h) ⟨Or.inl ⟨by rfl, ?_⟩, fun _ => rfl⟩ ?_
            rotate_left
            · intro _
              first | (go_simp; done) | (go_simp; with_reducible rfl)
            refine wpAnyIn_ready (rs := [8]) (by kernel_rfl) (by simp) ?_
            refine AllReadyIn.cons rfl (fun K hK => ?_) AllReadyIn.nil
            go_simp
            refine hK _ _ ?_
            clear hK K
            refine wpAnyIn_ready (rs := [9]) (by kernel_rfl) (by simp) ?_
            refine AllReadyIn.cons rfl (fun K hK => ?_) AllReadyIn.nil
            go_simp
            rw [HR2.out]
            gi_wp2
            refine wpAnyIn_ready (rs := [10]) (by kernel_rfl) (by simp) ?_
            refine AllReadyIn.cons rfl (fun K hK => ?_) AllReadyIn.nil
            go_simp
            refine hK _ _ ?_
            clear hK K
            refine wpAnyIn_done (by kernel_rfl) ?_ _
            exact ⟨rfl, by first | rfl | (rw [hW9]; rfl)⟩
          · go_simp
            refine hK _ _ ?_
            clear hK K
            refine wpAnyIn_take (i := 3) (v := ?_) rfl rfl (by kernel_rfl) (by kernel_rfl) (by kernel_rfl) (fun _ _ _ h => h) ⟨Or.inl ⟨by rfl, ?_⟩, fun _ => rfl⟩ ?_
            rotate_left
            · intro _
              first | (go_simp; done) | (go_simp; with_reducible rfl)
            refine wpAnyIn_ready (rs := [0, 4]) (by kernel_rfl) (by simp) ?_
            refine AllReadyIn.cons rfl (fun K hK => ?_) (AllReadyIn.cons rfl (fun K hK => ?_) AllReadyIn.nil)
            · go_simp
              refine hK _ _ ?_
              clear hK K
              refine wpAnyIn_ready (rs := [4]) (by kernel_rfl) (by simp) ?_
              refine AllReadyIn.cons rfl (fun K hK => ?_) AllReadyIn.nil
              go_simp
              refine hK _ _ ?_
              clear hK K
              refine wpAnyIn_take (i := 7) (v := ?_) rfl rfl (by kernel_rfl) (by kernel_rfl) (by kernel_rfl) (fun _ _ _ h => h) ⟨Or.inl ⟨by rfl, ?_⟩, fun _ => rfl⟩ ?_
              rotate_left
              · intro _
                first | (go_simp; done) | (go_simp; with_reducible rfl)
              refine wpAnyIn_ready (rs := [8]) (by kernel_rfl) (by simp) ?_
              refine AllReadyIn.cons rfl (fun K hK => ?_) AllReadyIn.nil
              go_simp
              refine hK _ _ ?_
              clear hK K
              refine wpAnyIn_ready (rs := [9]) (by kernel_rfl) (by simp) ?_
              refine AllReadyIn.cons rfl (fun K hK => ?_) AllReadyIn.nil
              go_simp
              rw [HR2.out]
              gi_wp2
              refine wpAnyIn_ready (rs := [10]) (by kernel_rfl) (by simp) ?_
              refine AllReadyIn.cons rfl (fun K hK => ?_) AllReadyIn.nil
              go_simp
              refine hK _ _ ?_
              clear hK K
              refine wpAnyIn_done (by kernel_rfl) ?_ _
              exact ⟨rfl, by first | rfl | (rw [hW9]; rfl)⟩
            · go_simp
              refine hK _ _ ?_
              clear hK K
              refine wpAnyIn_take (i := 7) (v := ?_) rfl rfl (by kernel_rfl) (by kernel_rfl) (by kernel_rfl) (fun _ _ _ h => h) ⟨Or.inl ⟨by rfl, ?_⟩, fun _ => rfl⟩ ?_
              rotate_left
              · intro _
                first | (go_simp; done) | (go_simp; with_reducible rfl)
              refine wpAnyIn_ready (rs := [0, 8]) (by kernel_rfl) (by simp) ?_
              refine AllReadyIn.cons rfl (fun K hK => ?_) (AllReadyIn.cons rfl (fun K hK => ?_) AllReadyIn.nil)
              · go_simp
                refine hK _ _ ?_
                clear hK K
                refine wpAnyIn_ready (rs := [8]) (by kernel_rfl) (by simp) ?_
                refine AllReadyIn.cons rfl (fun K hK => ?_) AllReadyIn.nil
                go_simp
                refine hK _ _ ?_
                clear hK K
                refine wpAnyIn_ready (rs := [9]) (by kernel_rfl) (by simp) ?_
                refine AllReadyIn.cons rfl (fun K hK => ?_) AllReadyIn.nil
                go_simp
                rw [HR2.out]
                gi_wp2
                refine wpAnyIn_ready (rs := [10]) (by kernel_rfl) (by simp) ?_
                refine AllReadyIn.cons rfl (fun K hK => ?_) AllReadyIn.nil
                go_simp
                refine hK _ _ ?_
                clear hK K
                refine wpAnyIn_done (by kernel_rfl) ?_ _
                exact ⟨rfl, by first | rfl | (rw [hW9]; rfl)⟩
              · go_simp
                refine hK _ _ ?_
                clear hK K
                refine wpAnyIn_ready (rs := [0]) (by kernel_rfl) (by simp) ?_
                refine AllReadyIn.cons rfl (fun K hK => ?_) AllReadyIn.nil
                go_simp
                refine hK _ _ ?_
                clear hK K
                refine wpAnyIn_ready (rs := [9]) (by kernel_rfl) (by simp) ?_
                refine AllReadyIn.cons rfl (fun K hK => ?_) AllReadyIn.nil
                go_simp
                rw [HR2.out]
                gi_wp2
                refine wpAnyIn_ready (rs := [10]) (by kernel_rfl) (by simp) ?_
                refine AllReadyIn.cons rfl (fun K hK => ?_) AllReadyIn.nil
                go_simp
                refine hK _ _ ?_
                clear hK K
                refine wpAnyIn_done (by kernel_rfl) ?_ _
                exact ⟨rfl, by first | rfl | (rw [hW9]; rfl)⟩
        · rintro e' a' w9 ⟨rfl, rfl⟩
          rw [← hW9]
          simp only [Exit.inBlock]
          exact ⟨HM2.out.2.2.1, HM2.out.2.1, HM2.out.1, HM2.out.2.2.2⟩
      · obtain ⟨q0, q1, q2, q3, q4⟩ := HV.out V2 hk2
        obtain ⟨i1, i2, i3, i5, i6, hkI, hcnt, hWsz, hpl⟩ := HI.out
        obtain ⟨hXe, hXlt, hsB, hsz, hB, hB1, hB2, hB3, hB4, hB5, hB6⟩ := HX.out
        have c2 : V2.cell? ⟨B2, 0, none⟩ = some (.slice none 0 0) := by simp [World.cell?, q2]
        have f2 : V2.frozen? ⟨B2, 0, none⟩ = false := by simp [World.frozen?, q2]
        have c3 : V2.cell? ⟨B3, 0, none⟩ = some (.int .i64 0) := by simp [World.cell?, q3]
        have f3 : V2.frozen? ⟨B3, 0, none⟩ = false := by simp [World.frozen?, q3]
        have hS : (KeepsFrom W0.heap.size W ((V2.setCell ⟨B2, 0, none⟩ (.slice none 0 0)).setCell ⟨B3, 0, none⟩ (.int .i64 6))) ∧ AnX W0 s room B2 B3 lv m D X N l .ret (pre ++ [x]) ((V2.setCell ⟨B2, 0, none⟩ (.slice none 0 0)).setCell ⟨B3, 0, none⟩ (.int .i64 6)) := by
          have hfar : ∀ k, k ≠ B2 → k ≠ B3 → ((V2.setCell ⟨B2, 0, none⟩ (.slice none 0 0)).setCell ⟨B3, 0, none⟩ (.int .i64 6)).heap[k]? = V2.heap[k]? := fun k e1 e2 => (heap_setCell_other _ _ _ _ (by simpa using e2)).trans (heap_setCell_other _ _ _ _ (by simpa using e1))
          have hnot : ∀ k, D2 k → k ≠ B2 ∧ k ≠ B3 := fun k hd => by
            rcases hD2 k hd with h | h
            · rcases i3 k h with h | h
              · have := H.out.1.lt k h; rw [hB] at this; omega
              · omega
            · omega
          have hs2 := hk2.size
          refine ⟨⟨by simpa using hs2, fun k o hBk ho hc => ?_⟩, rfl, pre, x, rfl, ⟨fun k => D2 k ∧ IsC V2 k, ?_, fun k hd => hd.2.eq (hfar k (hnot k hd.1).1 (hnot k hd.1).2), fun k hd => ?_⟩, ?_, hcnt, ?_, ?_, ?_⟩
          · have hkl := (Array.getElem?_eq_some_iff.1 ho).1
            exact (hfar k (by omega) (by omega)).trans ((hk2.block k ⟨hkl, by omega⟩).trans ho)
          · exact hsh.cells.kept ⟨rfl, rfl, rfl, by simp, fun k hd => hfar k (hnot k hd.1).1 (hnot k hd.1).2⟩
          · rcases hD2 k hd.1 with h | h
            · exact i3 k h
            · exact .inr (by omega)
          · rw [List.length_append, nodesP_length] at hroom; exact hroom
          · rw [heap_setCell_other _ _ _ _ (by simp; omega), heap_setCell_same _ _ _ _ _ _ q2]; rfl
          · have : (V2.setCell ⟨B2, 0, none⟩ (.slice none 0 0)).heap[B3]? = _ := (heap_setCell_other _ _ _ _ (by simp; omega)).trans q3
            rw [heap_setCell_same _ _ _ _ _ _ this]; rfl
          · refine (hkI.mono fun k hk => hk.1).trans ⟨hk2.os, hk2.tape, hk2.output, by simpa using hs2, fun k hk => ?_⟩
            have := hk.1
            rw [hXe] at this
            exact (hfar k hk.2.1 hk.2.2).trans (hk2.block k ⟨by omega, this.2.1⟩)
        have HS := Lib.hid hS
        have hB23 : ¬ B2 = B3 := by omega
        have hB32 : ¬ B3 = B2 := by omega
        clear hS CA CL HV hI0 hstops hpre hF HI HP HM HX HB HR9 hXl2 hsz2 c0 c1' q0 q1 q2 q3 q4 i1 i2 i3 i5 i6 hkI hcnt hWsz hpl hXe hXlt hsB hsz hB hB1 hB2 hB3 hB4 hB5 hB6 hsh hD2 hk2 hroom
        simp only [Exit.then]
        gi_wp2
        exact HS.out
  case done =>
    rintro Dd ys W hDd rfl ⟨hI, hcnt⟩ hK
    obtain ⟨⟨D1, a1, c1, i1, i2, i3, i4, i5, i6⟩, hkI⟩ := hI
    obtain ⟨h, ha, hps, hcap, hcm, hne, _, _, hl, _⟩ := H.out
    obtain ⟨hXe, hXlt, hsB, hsz, hB, hB1, hB2, hB3, hB4, hB5, hB6⟩ := HX.out
    have d2 : W.heap[B2]? = _ := (hkI.block B2 (by rw [hXe]; exact ⟨by omega, by omega, by omega⟩)).trans HB.out.2.2.1
    have d3 : W.heap[B3]? = _ := (hkI.block B3 (by rw [hXe]; exact ⟨by omega, by omega, by omega⟩)).trans HB.out.2.2.2.1
    have q4 : W.cell? ⟨B4, 0, none⟩ = some (.slice a1 (leadsP N.length m l (firstJ m l.length (partsOf m l.length))).length c1) := by simp [World.cell?, i4]
    have c2 : W.cell? ⟨B2, 0, none⟩ = some (.slice none 0 0) := by simp [World.cell?, d2]
    have f2 : W.frozen? ⟨B2, 0, none⟩ = false := by simp [World.frozen?, d2]
    have c3 : W.cell? ⟨B3, 0, none⟩ = some (.int .i64 0) := by simp [World.cell?, d3]
    have f3 : W.frozen? ⟨B3, 0, none⟩ = false := by simp [World.frozen?, d3]
    have hB23 : ¬ B2 = B3 := by omega
    have hB32 : ¬ B3 = B2 := by omega
    obtain ⟨hall1, hall2⟩ := firstJ_all (l := l) hm N.length lv _ (Nat.le_refl _)
    have hall2l : (leadsP N.length m l (firstJ m l.length (partsOf m l.length))).length = partsOf m l.length := by rw [hall2, leadsOf_length]
    rw [hall2l] at i4 i5 q4
    obtain ⟨K, hKe⟩ : ∃ K, partsOf m l.length = K := ⟨_, rfl⟩
    rw [hKe] at i4 i5 q4 hall1 hall2 hcnt
    rw [firstJ_length hm K (by omega)] at hcnt
    have hfit : N.length + K ≤ min room 511 := by
      rcases hcnt with h0 | h0
      · rw [h0]; exact hNc
      · exact h0
    have hNM : nodesM (min room 511) lv m l N = (some (leadsOf N.length m l K), N ++ nodesOf lv m l K) := by
      unfold nodesM
      rw [hKe, if_pos hfit]
    have HNM := Lib.hid hNM
    rw [hKe] at i1 i6
    rw [hall1] at i1
    have hend := fun Wf o u hW => an_end (Wf := Wf) (o := o) (u := u) (v0 := 0) (R := B2) (E := B3) (Dd := Dd) hk0 (by omega) (fun k h1 h2 => by rw [hXe]; exact ⟨by omega, h2, by omega⟩) h.lt ⟨by omega, by omega⟩ ⟨by omega, by omega⟩ i1 i2 i3 hkI hK hDd hW
    have hKd : ((W.setCell ⟨B2, 0, none⟩ (.slice a1 K c1)).setCell ⟨B3, 0, none⟩ (.int .i64 0)).heap[Dd]? = some (.deferred (some [])) := (heap_setCell_other _ _ _ _ (by simp; omega)).trans ((heap_setCell_other _ _ _ _ (by simp; omega)).trans hK)
    have hb2 : ((W.setCell ⟨B2, 0, none⟩ (.slice a1 K c1)).setCell ⟨B3, 0, none⟩ (.int .i64 0)).heap[B2]? = some (.cells #[.slice a1 K c1] 25 (0, 0)) := by
      rw [heap_setCell_other _ _ _ _ (by simp; omega), heap_setCell_same _ _ _ _ _ _ d2]; rfl
    have hb3 : ((W.setCell ⟨B2, 0, none⟩ (.slice a1 K c1)).setCell ⟨B3, 0, none⟩ (.int .i64 0)).heap[B3]? = some (.cells #[.int .i64 0] 32 (0, 0)) := by
      have : (W.setCell ⟨B2, 0, none⟩ (.slice a1 K c1)).heap[B3]? = _ := (heap_setCell_other _ _ _ _ (by simp; omega)).trans d3
      rw [heap_setCell_same _ _ _ _ _ _ this]; rfl
    have HE := Lib.hid (And.intro i5 (And.intro hall2 (And.intro hend (And.intro hKd (And.intro hb2 (And.intro hb3 (And.intro hk0.size (And.intro hDd hsz))))))))
    have HBx := Lib.hid (show B2 < W0.heap.size ∧ B3 < W0.heap.size by omega)
    have hKl : K = K := rfl
    clear h ha hps hcap hcm hne hl hXe hXlt hsB hsz hB hB1 hB2 hB3 hB4 hB5 hB6 i1 i2 i3 i4 i5 i6 hkI hcnt hall1 hall2 hall2l hend hKd hb2 hb3 hstops hI0 hK hNM hfit hKe hNc HX HB hXl2 hsz2 d2 d3 H
    gi_wp2
    refine ⟨by simp, .inl ⟨_, _, rfl, run_takeDeferred HE.out.2.2.2.1, ?_⟩⟩
    obtain ⟨Wf, hWf⟩ : ∃ Wf, ((W.setCell ⟨B2, 0, none⟩ (.slice a1 K c1)).setCell ⟨B3, 0, none⟩ (.int .i64 0)).putObj Dd (.deferred none) = Wf := ⟨_, rfl⟩
    obtain ⟨hA, hblk⟩ := HE.out.2.2.1 Wf _ _ hWf
    have g2 : Wf.cell? ⟨B2, 0, none⟩ = some (.slice a1 K c1) := by
      have : Wf.heap[B2]? = some (.cells #[.slice a1 K c1] 25 (0, 0)) := by rw [← hWf]; exact (World.putObj_heap_other (by have := HBx.out; omega)).trans HE.out.2.2.2.2.1
      simp [World.cell?, this]
    have g3 : Wf.cell? ⟨B3, 0, none⟩ = some (.int .i64 0) := by
      have : Wf.heap[B3]? = some (.cells #[.int .i64 0] 32 (0, 0)) := by rw [← hWf]; exact (World.putObj_heap_other (by have := HBx.out; omega)).trans HE.out.2.2.2.2.2.1
      simp [World.cell?, this]
    rw [hWf]
    refine ⟨.tuple #[.slice a1 K c1, .int .i64 0], ?_, ?_⟩
    · simp [results, Try.f56, go_sem, g2, g3]
    · rw [HNM.out]
      refine ⟨⟨a1, c1, by rw [leadsOf_length], ?_⟩, hA⟩
      rw [leadsOf_length, ← HE.out.2.1]
      refine row_weaken (rowS_block HE.out.1 fun g e => ?_) HE.out.2.2.2.2.2.2.1
      have h1 := (rowS_lt HE.out.1 g e).1
      have h2 := HBx.out
      refine hblk g ?_ (by omega) (by omega)
      rcases HE.out.1.2 with ⟨e1, _⟩ | ⟨g1, cap1, cur, e1, _, hc, _⟩
      · rw [e1] at e; cases e
      · rw [e1] at e
        simp only [Value.ownBlock, Option.some.injEq] at e
        subst e
        exact ⟨_, _, _, hc⟩
  case stop =>
    rintro Dd c pre W hDd ⟨q, hq, rfl⟩ ⟨rfl, ini, last, e1, ⟨D', i1, i2, i3⟩, h4, h5, h6, h7, hkI⟩ hK
    obtain ⟨h, ha, hps, hcap, hcm, hne, _, _, hl, _⟩ := H.out
    obtain ⟨hXe, hXlt, hsB, hsz, hB, hB1, hB2, hB3, hB4, hB5, hB6⟩ := HX.out
    rw [firstJ_succ ((parts_lt hm).1 hq)] at e1
    obtain ⟨rfl, _⟩ := List.append_inj' e1 rfl
    have hini : (firstJ m l.length q).length = q := firstJ_length hm q (by omega)
    obtain ⟨hall1, hall2⟩ := firstJ_all (l := l) hm N.length lv q (by omega)
    rw [hini] at h4 h5
    rw [hall1] at i1
    have hqc : min room 511 - N.length = q := by
      rcases h5 with h0 | h0 <;> omega
    have hNM : nodesM (min room 511) lv m l N = (none, N ++ nodesOf lv m l q) := by
      unfold nodesM
      rw [if_neg (by omega), hqc]
    obtain ⟨Wf, hWf⟩ : ∃ Wf, W.putObj Dd (.deferred none) = Wf := ⟨_, rfl⟩
    have hA : AddTo w s room D (N ++ nodesOf lv m l q) Wf := an_stop (R := B2) (E := B3) (Dd := Dd) hk0 (by omega) (X := fun k => X k ∧ k ≠ B2 ∧ k ≠ B3) (fun k h1 h2 => by rw [hXe]; exact ⟨⟨by omega, h2, by omega⟩, by omega, by omega⟩) i1 i2 i3 hkI hK hDd hWf
    have g2 : Wf.cell? ⟨B2, 0, none⟩ = some (.slice none 0 0) := by
      have : Wf.heap[B2]? = some (.cells #[.slice none 0 0] 25 (0, 0)) := by rw [← hWf]; exact (World.putObj_heap_other (by omega)).trans h6
      simp [World.cell?, this]
    have g3 : Wf.cell? ⟨B3, 0, none⟩ = some (.int .i64 6) := by
      have : Wf.heap[B3]? = some (.cells #[.int .i64 6] 32 (0, 0)) := by rw [← hWf]; exact (World.putObj_heap_other (by omega)).trans h7
      simp [World.cell?, this]
    have HA := Lib.hid (And.intro hA hNM)
    have HK := Lib.hid hK
    clear hA hNM hK hkI i1 i2 i3 h4 h5 h6 h7 hall1 hall2 hqc hini h ha hps hcap hcm hne hl hXe hXlt hsB hsz hB hB1 hB2 hB3 hB4 hB5 hB6 hstops hI0 H HX HB hXl2 hsz2 e1
    gi_wp2
    refine ⟨by simp, .inl ⟨_, _, rfl, run_takeDeferred HK.out, ?_⟩⟩
    rw [hWf]
    refine ⟨.tuple #[.slice none 0 0, .int .i64 6], ?_, ?_⟩
    · simp [results, Try.f56, go_sem, g2, g3]
    · rw [HA.out.2]
      exact ⟨rfl, HA.out.1⟩

end Go.Proofs.Ytdbohcdjamhdjaa
