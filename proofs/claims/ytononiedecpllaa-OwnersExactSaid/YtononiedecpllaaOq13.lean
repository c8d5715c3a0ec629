/- Owners: remember, insert, cut, Commit, New: walks. -/
import Derived.Test.YtononiedecpllaaOp13
set_option linter.unusedVariables false
namespace Go.Proofs.Ytononiedecpllaa
open Go.RowKit Go.Maps

section
variable {B b bn bw : Nat} {N M : Int → Option Value} {f h : Int → List Ow} {D : Nat → Prop} {w : World}

theorem storeV {b n : Nat} {N : Int → Option Value} {w : World} (h : MpAt (fun v : Value => v) b n N w) (hn : n < maxLen) (c : Int) (hc : (Lit.int .i64 c).wf = true) (v : Value) :
    ∃ w', (Instr.mapUpdate 55 (.map (some b)) (.int .i64 c) v).run Try.prog w = .ok () w' ∧ MpAt (fun v : Value => v) b (n + 1) (mpPut N c v) w' ∧ KeptIn (· ≠ b) w w' ∧ w'.heap.size = w.heap.size :=
  h.store idV_inj Try.underlying55 hn c hc v
theorem mp_cap {b n : Nat} {N : Int → Option Value} {w : World} {c : Int} {v : Value} (h : MpAt (fun v : Value => v) b n (mpPut N c v) w) (hr : ∀ d u, N d = some u → 1 ≤ d ∧ d ≤ 1023) (h1 : 1 ≤ c) (h2 : c ≤ 1023) : MpAt (fun v : Value => v) b 1024 (mpPut N c v) w :=
  h.cap fun d u hd => by
    by_cases e : d = c
    · omega
    · rw [mpPut_other _ _ e] at hd
      have := hr d u hd
      omega

/-- What remember leaves. -/
def RemS (B b bn bw : Nat) (N : Int → Option Value) (f h : Int → List Ow) (D : Nat → Prop) (c : Int) (w : World) (e : Ending) (w' : World) : Prop :=
  e = .returned (.tuple #[]) ∧ ∃ M' D', Bk B b bn bw N M' f h D' w' ∧ (M' c).isSome = true ∧ Went w D D' w'

set_option maxRecDepth 100000 in
set_option maxHeartbeats 1000000 in
theorem owRem (H : Bk B b bn bw N M f h D w) (c : Int) (hc : (Lit.int .i64 c).wf = true) (h1 : 1 ≤ c) (h2 : c ≤ 1023) (hl : (f c).length ≤ 2000) :
    Calls Try.prog 24 #[.pointer (some ⟨b, 0, none⟩), .int .i64 c] w (RemS B b bn bw N f h D c w) := by
  obtain ⟨m1, m2⟩ := lookV H.mw c hc
  cases hM : M c with
  | some v =>
    have hS : RemS B b bn bw N f h D c w (.returned (.tuple #[])) w := ⟨rfl, M, D, H, by rw [hM]; rfl, Went.same D (KeptIn.refl _ w)⟩
    obtain ⟨c0, c1⟩ := H.cells
    have HS := Lib.hid hS
    rw [hM] at m1
    simp only [Option.isSome_some] at m1
    generalize getV M c = u at *
    clear H hS m2 hM h1 h2 hl
    go_enter Try.func24, Try.ntmps24
    go_wp2_with fail
    go_end0
    exact HS.out
  | none =>
    rw [hM] at m1
    simp only [Option.isSome_none] at m1
    obtain ⟨c0, c1⟩ := H.cells
    have k0 : KeptIn (· < w.heap.size) w w.drew := (KeptIn.refl _ _).drew
    have C := Lib.hid (owClone (getV N c) (f c) B w.drew ((H.old k0).row c).1 ((H.old k0).row c).2 hl)
    have HM : Hid (∀ V v, KeptIn (· < w.heap.size) w V → RowO V w.heap.size v (f c) → ∃ W2, (Instr.mapUpdate 55 (.map (some bw)) (.int .i64 c) v).run Try.prog V = .ok () W2 ∧ RemS B b bn bw N f h D c w (.returned (.tuple #[])) W2 ∧ W2.cell? ⟨b, 0, none⟩ = some (.map (some bn)) ∧ W2.cell? ⟨b, 1, none⟩ = some (.map (some bw)) ∧ (Instr.lookup 55 (.map (some bn)) (.int .i64 c) false).run Try.prog W2 = .ok (getV N c) W2) := Lib.hid fun V v hk hr => by
      obtain ⟨W2, hst, hm2, hkk, hsz⟩ := storeV (H.old hk).mw (by unfold maxLen; omega) c hc v
      have hkW : KeptIn (fun k => k < w.heap.size ∧ k ≠ bw) w W2 := (hk.mono fun k hk => hk.1).trans (hkk.mono fun k hk => hk.2)
      have H2 := H.note hkW (mp_cap hm2 H.ram h1 h2) ((hr.mono H.hB).kept hkk fun g hg e => by
        obtain ⟨cur, hcur⟩ := hr.typ hg
        exact (H.old hk).mw.ne hcur e) (fun g hg => (hr.lt hg).1) hM h1 h2
      exact ⟨W2, hst, ⟨rfl, _, _, H2, by rw [mpPut_same]; rfl, Went.more (hkW.mono fun k hk => ⟨hk.1, fun e => hk.2 (e ▸ H.din.2.2)⟩)⟩, H2.cells.1, H2.cells.2, (lookV H2.mn c hc).2⟩
    have HF : Hid (∀ V, KeptIn (· < w.heap.size) w V → V.cell? ⟨b, 0, none⟩ = some (.map (some bn)) ∧ V.cell? ⟨b, 1, none⟩ = some (.map (some bw)) ∧ (Instr.lookup 55 (.map (some bn)) (.int .i64 c) false).run Try.prog V = .ok (getV N c) V) := Lib.hid fun V hk =>
      ⟨(H.old hk).cells.1, (H.old hk).cells.2, (lookV (H.old hk).mn c hc).2⟩
    obtain ⟨p0, p1, p2⟩ := HF.out _ k0
    generalize getV M c = u at *
    generalize getV N c = v1 at *
    clear H hM h1 h2 hl m2
    go_enter Try.func24, Try.ntmps24
    go_wp2_with fail
    go_region_held3 (fun V => V.cell? ⟨b, 0, none⟩ = some (.map (some bn)) ∧ V.cell? ⟨b, 1, none⟩ = some (.map (some bw)) ∧ (Instr.lookup 55 (.map (some bn)) (.int .i64 c) false).run Try.prog V = .ok v1 V)
      (first | exact ⟨p0, p1, p2⟩ | exact HF.out _ (k0.on hk) | exact ⟨s0, s1, s2⟩ | go_keep)
      (first | (go_at_call 29; refine C.out.mono ?_; rintro e V hR; unfold CloneO at hR; obtain ⟨v, rfl, hr, hk⟩ := hR; obtain ⟨W2, hst, hW2, s0, s1, s2⟩ := HM.out V v (k0.on hk) hr))
    all_goals
      have HS := Lib.hid hW2
      go_wp2_with fail
      go_end0
      exact HS.out
/-- What insert and cut leave. -/
def TabS (B b bn bw : Nat) (M : Int → Option Value) (f h : Int → List Ow) (D : Nat → Prop) (w : World) (e : Ending) (w' : World) : Prop :=
  e = .returned (.tuple #[]) ∧ ∃ N' D', Bk B b bn bw N' M f h D' w' ∧ Went w D D' w'

set_option maxRecDepth 100000 in
set_option maxHeartbeats 1000000 in
theorem owIns (H : Bk B b bn bw N M f h D w) (c : Int) (hc : (Lit.int .i64 c).wf = true) (h1 : 1 ≤ c) (h2 : c ≤ 1023) (hl : (f c).length ≤ 2000) (o : Ow) (hM : (M c).isSome = true) (ho : o ∉ f c) :
    Calls Try.prog 25 #[.map (some bn), .int .i64 c, .int .i64 (plO (f c) o : Nat), ownV o] w (TabS B b bn bw M (setF f c (insO (f c) o)) h D w) := by
  obtain ⟨W0, hW0⟩ : ∃ W, w.alloc (.cells #[.int .i64 o.vol, .int .i64 o.bir, .int .i64 o.pos] 31) = W := ⟨_, rfl⟩
  have k0 : KeptIn (· < w.heap.size) w W0 := by rw [← hW0]; exact (KeptIn.refl _ w).alloc (fun _ h => h) _
  have b0 : BoxO w.heap.size o W0 := by rw [← hW0]; exact BoxO.new w o
  obtain ⟨W1, hW1⟩ : ∃ W, W0.alloc (.cells #[.int .i64 o.vol, .int .i64 o.bir, .int .i64 o.pos] 31) = W := ⟨_, rfl⟩
  have k1 : KeptIn (· < W0.heap.size) W0 W1 := by rw [← hW1]; exact (KeptIn.refl _ W0).alloc (fun _ h => h) _
  have b1 : BoxO W0.heap.size o W1 := by rw [← hW1]; exact BoxO.new W0 o
  have kw1 : KeptIn (· < w.heap.size) w W1 := k0.on k1
  have H1 := H.old kw1
  obtain ⟨hr1, _⟩ := H1.row c
  obtain ⟨a, cap, hv, _, _⟩ := hr1.shape
  obtain ⟨n, hn⟩ : ∃ n, (f c).length = n := ⟨_, rfl⟩
  obtain ⟨L', hL'⟩ : ∃ L', insO (f c) o = L' := ⟨_, rfl⟩
  rw [hn] at hv
  have hCI : Calls Try.prog 36 #[getV N c, .int .i64 (plO (f c) o : Nat), .slice (some ⟨W0.heap.size, 0, none⟩) 1 1] W1 (InsS W1 B (getV N c) (insO (f c) o)) := owInsert (getV N c) (f c) B (plO (f c) o) W0.heap.size o W1 hr1 (plO_le _ _) hl H1.hB b1 (fun e => by
    have := ((H.row c).1.lt e).2
    have := k0.size
    omega)
  rw [hv, hL'] at hCI
  have C := Lib.hid hCI
  have HM : Hid (∀ e V, InsS W1 B (.slice a n cap) L' e V → ∃ v W2, e = .returned v ∧ (Instr.mapUpdate 55 (.map (some bn)) (.int .i64 c) v).run Try.prog V = .ok () W2 ∧ TabS B b bn bw M (setF f c (insO (f c) o)) h D w (.returned (.tuple #[])) W2) := Lib.hid fun e V hI => by
    rw [← hv, ← hL'] at hI
    obtain ⟨g, cp, rfl, hr, hk, hat⟩ := hI
    have hmn : MpAt (fun v : Value => v) bn 1024 N V := H1.mn.block (hk.block bn ⟨H1.mn.lt, (H1.ne_own c).2.2⟩)
    obtain ⟨W2, hst, hm2, hkk, hsz⟩ := storeV hmn (by unfold maxLen; omega) c hc (.slice (some ⟨g, 0, none⟩) (insO (f c) o).length cp)
    have hkW : KeptIn (fun k => k < w.heap.size ∧ k ≠ bn ∧ (getV N c).ownBlock ≠ some k) w W2 :=
      (kw1.mono fun k hk => hk.1).trans ((hk.mono fun k hk => ⟨Nat.lt_of_lt_of_le hk.1 kw1.size, hk.2.2⟩).trans (hkk.mono fun k hk => hk.2.1))
    have H2 := H.change hkW (mp_cap hm2 H.ran h1 h2) (hr.kept hkk fun x hx e => by
      obtain ⟨cur, hcur⟩ := hr.typ hx
      exact hmn.ne hcur e) (fun e => by
        have := insO_length (f c) o
        rw [e] at this
        simp at this) (srt_insO (H.srt c) ho) (fun x hx => by
      obtain rfl : g = x := by simpa [Value.ownBlock] using hx
      rcases hat with h3 | h3
      · exact .inl h3
      · exact .inr (Nat.le_trans kw1.size h3)) hM h1 h2
    exact ⟨_, W2, rfl, hst, rfl, _, _, H2, Went.more (hkW.mono fun k hk => ⟨hk.1, fun e => hk.2 (e ▸ H.din.2.1), fun e => by
      obtain ⟨_, _⟩ := H.row c
      unfold getV at e
      cases hN : N c with
      | none => rw [hN] at e; cases e
      | some v => rw [hN] at e; exact hk.2 (H.dn c v k hN e)⟩)⟩
  have hlk := (lookV (H.old k0).mn c hc).2
  obtain ⟨c0, c1, c2⟩ := b0.cells
  obtain ⟨i, hi⟩ : ∃ i, plO (f c) o = i := ⟨_, rfl⟩
  rw [hv] at hlk
  rw [hi] at C ⊢
  unfold ownV
  have HW0 := Lib.hid hW0
  have HW1 := Lib.hid hW1
  clear hCI H H1 hW0 k0 b0 hW1 k1 b1 kw1 hr1 hv hM ho hi hn h1 h2 hl hL'
  go_enter Try.func25, Try.ntmps25
  go_upto_region 1 with fail
  rw [HW0.out]
  go_wp2_with (go_at_call 36; rw [HW1.out]; refine C.out.mono ?_)
  intro e V hI
  obtain ⟨v, W2, rfl, hst, hT⟩ := HM.out e V hI
  have HT := Lib.hid hT
  clear hI hT C HM
  go_wp2_with fail
  go_end0
  exact HT.out
set_option maxRecDepth 100000 in
set_option maxHeartbeats 1000000 in
theorem owCut (H : Bk B b bn bw N M f h D w) (c : Int) (hc : (Lit.int .i64 c).wf = true) (h1 : 1 ≤ c) (h2 : c ≤ 1023) (hl : (f c).length ≤ 2000) (o : Ow) (hM : (M c).isSome = true) (ho : o ∈ f c) :
    Calls Try.prog 27 #[.map (some bn), .int .i64 c, .int .i64 (plO (f c) o : Nat)] w (TabS B b bn bw M (setF f c (delO (f c) o)) h D w) := by
  obtain ⟨v, hN⟩ : ∃ v, N c = some v := by
    cases hN : N c with
    | none => rw [H.rz c hN] at ho; cases ho
    | some v => exact ⟨v, rfl⟩
  obtain ⟨hr, hne⟩ := H.rn c v hN
  obtain ⟨n, hn⟩ : ∃ n, (f c).length = n := ⟨_, rfl⟩
  obtain ⟨i, hi⟩ : ∃ i, plO (f c) o = i := ⟨_, rfl⟩
  obtain ⟨L', hL'⟩ : ∃ L', delO (f c) o = L' := ⟨_, rfl⟩
  have hin : i < n := by
    have := (List.getElem?_eq_some_iff.1 ((plO_mem (H.srt c)).1 ho)).1
    omega
  obtain ⟨g, cap, rfl⟩ : ∃ g cap, v = .slice (some ⟨g, 0, none⟩) n cap := by
    rcases hr.form with ⟨_, e⟩ | ⟨g, cap, cur, rfl, _⟩
    · exact absurd e hne
    · exact ⟨g, cap, by rw [hn]⟩
  have hCI : Calls Try.prog 37 #[.slice (some ⟨g, 0, none⟩) n cap, .int .i64 i, .int .i64 ((i + 1 : Nat) : Int)] w (DelS w B g cap (delO (f c) o)) := by
    have := owDelete g n cap i (i + 1) B (f c) w (by rw [hn]; exact hr) hn hin (by omega) rfl
    unfold delO
    rw [hi]
    exact this
  rw [hL', show ((i + 1 : Nat) : Int) = (i : Int) + 1 by omega] at hCI
  have C := Lib.hid hCI
  have hlk := (lookV H.mn c hc).2
  have hgN : getV N c = .slice (some ⟨g, 0, none⟩) n cap := getV_some hN
  rw [hgN] at hlk
  have HM : Hid (∀ e V, DelS w B g cap L' e V → ∃ v W2, e = .returned v ∧ (Instr.mapUpdate 55 (.map (some bn)) (.int .i64 c) v).run Try.prog V = .ok () W2 ∧
      Calls Try.prog 28 #[.map (some bn), .int .i64 c] W2 (fun e w' => e = .returned (.bool (decide (0 < L'.length))) ∧ W2 = w') ∧
      (0 < L'.length → TabS B b bn bw M (setF f c (delO (f c) o)) h D w (.returned (.tuple #[])) W2) ∧
      (¬ 0 < L'.length → ∃ W3, (∀ ty, (Builtin.delete_ #[55, 3] ty #[.map (some bn), .int .i64 c]).run Try.prog W2 = .ok (.tuple #[]) W3) ∧ TabS B b bn bw M (setF f c (delO (f c) o)) h D w (.returned (.tuple #[])) W3)) := Lib.hid fun e V hI => by
    obtain ⟨rfl, hr', hk⟩ := hI
    have hgb := H.own_mn hN (rfl : (Value.slice (some ⟨g, 0, none⟩) n cap).ownBlock = some g)
    have hmn : MpAt (fun v : Value => v) bn 1024 N V := H.mn.block (hk.block bn (fun e => hgb.1 e.symm))
    obtain ⟨W2, hst, hm2, hkk, hsz⟩ := storeV hmn (by unfold maxLen; omega) c hc (.slice (some ⟨g, 0, none⟩) L'.length cap)
    have hr2 : RowO W2 B (.slice (some ⟨g, 0, none⟩) L'.length cap) L' := hr'.kept hkk fun x hx => by
      obtain rfl : g = x := by simpa [Value.ownBlock] using hx
      exact hgb.1
    have hkW : KeptIn (fun k => k < w.heap.size ∧ k ≠ bn ∧ (getV N c).ownBlock ≠ some k) w W2 :=
      (hk.mono fun k hk => fun e => hk.2.2 (by rw [hgN, e]; rfl)).trans (hkk.mono fun k hk => hk.2.1)
    have hgo : ∀ k, k < w.heap.size ∧ ¬ D k → k < w.heap.size ∧ k ≠ bn ∧ (getV N c).ownBlock ≠ some k := fun k hk =>
      ⟨hk.1, fun e => hk.2 (e ▸ H.din.2.1), fun e => hk.2 (H.dn c _ k hN (by rw [hgN] at e; exact e))⟩
    refine ⟨_, W2, rfl, hst, owHas hm2 c hc B L' (by rw [getV_some (mpPut_same _ _ _)]; exact hr2), fun hp => ?_, fun hp => ?_⟩
    · have H2 := H.change hkW (mp_cap hm2 H.ran h1 h2) hr2 (List.length_pos_iff.1 hp) (by rw [← hL']; exact srt_delO (H.srt c)) (fun x hx => .inl (by rw [hgN]; exact hx)) hM h1 h2
      rw [hL']
      exact ⟨rfl, _, _, H2, Went.more (hkW.mono hgo)⟩
    · have hnil : L' = [] := List.length_eq_zero_iff.1 (by omega)
      obtain ⟨W3, hd, hm3, hk3, hs3⟩ := hm2.drop Try.underlying55 c hc 0
      have hdd : ∀ ty, (Builtin.delete_ #[55, 3] ty #[.map (some bn), .int .i64 c]).run Try.prog W2 = .ok (.tuple #[]) W3 := fun ty => hd
      have em : mpDel (mpPut N c (.slice (some ⟨g, 0, none⟩) L'.length cap)) c = mpDel N c := by
        funext d
        unfold mpDel mpPut
        split <;> rfl
      rw [em] at hm3
      have hkW3 := hkW.trans (hk3.mono fun k hk => hk.2.1)
      have H2 := H.empty hkW3 (hm3.cap fun d u hd => by
        by_cases e : d = c
        · rw [e, mpDel_same] at hd; cases hd
        · rw [mpDel_other _ e] at hd
          have := H.ran d u hd
          omega) hM
      rw [hL', hnil]
      exact ⟨W3, hdd, rfl, _, _, H2, Went.more (hkW3.mono hgo)⟩
  rw [hi]
  obtain ⟨m, hm⟩ : ∃ m, L'.length = m := ⟨_, rfl⟩
  have hi63 : (i : Int) + 1 ≤ 2001 := by omega
  have hi0 : (0 : Int) ≤ (i : Int) := by omega
  rw [hm] at HM
  clear hCI H hN hr hne hn hi hL' hin hgN hM ho h1 h2 hl hm
  go_enter Try.func27, Try.ntmps27
  go_wp2_with (go_at_call 37; refine C.out.mono ?_)
  intro e V hI
  obtain ⟨v, W2, rfl, hst, hhas, hp1, hp2⟩ := HM.out e V hI
  have HH := Lib.hid hhas
  have HP := Lib.hid (And.intro hp1 hp2)
  clear hI hhas hp1 hp2 C HM hlk
  by_cases hm0 : 0 < m
  · have HT := Lib.hid (HP.out.1 hm0)
    rw [decide_eq_true hm0] at HH
    clear HP
    go_wp2_with (go_at_call 28; refine HH.out.mono ?_; rintro e _ ⟨rfl, rfl⟩)
    go_end0
    exact HT.out
  · obtain ⟨W3, hdel, hT⟩ := HP.out.2 hm0
    have HT := Lib.hid hT
    rw [decide_eq_false hm0] at HH
    clear HP hT
    go_wp2_with (go_at_call 28; refine HH.out.mono ?_; rintro e _ ⟨rfl, rfl⟩)
    go_end0
    exact HT.out
end

end Go.Proofs.Ytononiedecpllaa
