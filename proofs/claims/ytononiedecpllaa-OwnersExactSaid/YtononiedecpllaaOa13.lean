/- Owners: a book in memory; what only reads it. -/
import Derived.Test.YtononiedecpllaaOb13
import Derived.Test.YtononiedecpllaaQk13
set_option linter.unusedVariables false
namespace Go.Proofs.Ytononiedecpllaa
open Go.RowKit Go.Maps

/-- The slice that a map has for a number. -/
def getV (N : Int → Option Value) (c : Int) : Value := (N c).getD (.slice none 0 0)

/-- A book at block b: its two maps, the rows that they lead to; f: whose a chunk is; h: whose it was. All of it lies in D. -/
structure Bk (B b bn bw : Nat) (N M : Int → Option Value) (f h : Int → List Ow) (D : Nat → Prop) (w : World) : Prop where
  hb : w.heap[b]? = some (.cells #[.map (some bn), .map (some bw)] 57 (0, 0))
  mn : MpAt (fun v : Value => v) bn 1024 N w
  mw : MpAt (fun v : Value => v) bw 1024 M w
  ne : bn ≠ bw
  rn : ∀ c v, N c = some v → RowO w B v (f c) ∧ f c ≠ []
  rz : ∀ c, N c = none → f c = []
  mr : ∀ c v, M c = some v → RowO w B v (h c)
  mz : ∀ c, M c = none → h c = f c
  ran : ∀ c v, N c = some v → 1 ≤ c ∧ c ≤ 1023
  ram : ∀ c v, M c = some v → 1 ≤ c ∧ c ≤ 1023
  srt : ∀ c, Srt13 (f c)
  ap : ∀ c d v u g, N c = some v → N d = some u → c ≠ d → v.ownBlock = some g → u.ownBlock ≠ some g
  ap2 : ∀ c d v u g, N c = some v → M d = some u → v.ownBlock = some g → u.ownBlock ≠ some g
  din : D b ∧ D bn ∧ D bw
  dn : ∀ c v g, N c = some v → v.ownBlock = some g → D g
  dm : ∀ c v g, M c = some v → v.ownBlock = some g → D g
  dB : ∀ k, D k → B ≤ k
  dl : ∀ k, D k → k < w.heap.size

section
variable {B b bn bw : Nat} {N M : Int → Option Value} {f h : Int → List Ow} {D : Nat → Prop} {w w' : World}
theorem Bk.cells (H : Bk B b bn bw N M f h D w) : w.cell? ⟨b, 0, none⟩ = some (.map (some bn)) ∧ w.cell? ⟨b, 1, none⟩ = some (.map (some bw)) := by
  have := H.hb
  exact ⟨by simp [World.cell?, this], by simp [World.cell?, this]⟩
theorem Bk.lt (H : Bk B b bn bw N M f h D w) : b < w.heap.size := (Array.getElem?_eq_some_iff.1 H.hb).1
theorem Bk.kept {X : Nat → Prop} (H : Bk B b bn bw N M f h D w) (hk : KeptIn X w w') (hX : ∀ k, D k → k < w.heap.size → X k) : Bk B b bn bw N M f h D w' := by
  have hlt : ∀ c v g, N c = some v → v.ownBlock = some g → X g := fun c v g hc hg => hX g (H.dn c v g hc hg) ((H.rn c v hc).1.lt hg).2
  have hlt2 : ∀ c v g, M c = some v → v.ownBlock = some g → X g := fun c v g hc hg => hX g (H.dm c v g hc hg) ((H.mr c v hc).lt hg).2
  exact { H with
    hb := (hk.block b (hX b H.din.1 H.lt)).trans H.hb
    mn := H.mn.kept hk (hX bn H.din.2.1 H.mn.lt)
    mw := H.mw.kept hk (hX bw H.din.2.2 H.mw.lt)
    rn := fun c v hc => ⟨(H.rn c v hc).1.kept hk fun g hg => hlt c v g hc hg, (H.rn c v hc).2⟩
    mr := fun c v hc => (H.mr c v hc).kept hk fun g hg => hlt2 c v g hc hg
    dl := fun k hk' => Nat.lt_of_lt_of_le (H.dl k hk') hk.size }
theorem Bk.old (H : Bk B b bn bw N M f h D w) (hk : KeptIn (· < w.heap.size) w w') : Bk B b bn bw N M f h D w' := H.kept hk fun _ _ h => h
/-- The row of a chunk, nil where it has none. -/
theorem Bk.row (H : Bk B b bn bw N M f h D w) (c : Int) : RowO w B (getV N c) (f c) ∧ (getV N c = .slice none 0 0 ∨ 0 < (f c).length) := by
  unfold getV
  cases hN : N c with
  | none => rw [H.rz c hN]; exact ⟨RowO.nil _ _, .inl rfl⟩
  | some v => exact ⟨(H.rn c v hN).1, .inr (List.length_pos_iff.2 (H.rn c v hN).2)⟩
/-- .. and at the last commit. -/
theorem Bk.was (H : Bk B b bn bw N M f h D w) (c : Int) : RowO w B (if (M c).isSome then getV M c else getV N c) (h c) := by
  cases hM : M c with
  | none => rw [H.mz c hM]; exact (H.row c).1
  | some v => simp only [Option.isSome_some, if_true, getV, hM, Option.getD_some]; exact H.mr c v hM
end

theorem idV_inj : ∀ a b : Value, (fun v : Value => v) a = (fun v : Value => v) b → a = b := fun _ _ h => h
theorem zeroList (w : World) : (zeroValue 59).run Try.prog w = .ok (.slice none 0 0) w := by
  have : (zeroValue 59).run Try.prog w = .ok (.slice none 0 0) w := by kernel_rfl
  exact this
theorem lookV {b n : Nat} {N : Int → Option Value} {w : World} (h : MpAt (fun v : Value => v) b n N w) (c : Int) (hc : (Lit.int .i64 c).wf = true) :
    (Instr.lookup 55 (.map (some b)) (.int .i64 c) true).run Try.prog w = .ok (.tuple #[getV N c, .bool (N c).isSome]) w ∧
    (Instr.lookup 55 (.map (some b)) (.int .i64 c) false).run Try.prog w = .ok (getV N c) w :=
  h.look idV_inj Try.underlying55 (.slice none 0 0) (zeroList w) c hc

/-- has. -/
theorem owHas {b n : Nat} {N : Int → Option Value} {w : World} (h : MpAt (fun v : Value => v) b n N w) (c : Int) (hc : (Lit.int .i64 c).wf = true) (B : Nat) (l : List Ow) (hr : RowO w B (getV N c) l) :
    Calls Try.prog 28 #[.map (some b), .int .i64 c] w fun e w' => e = .returned (.bool (decide (0 < l.length))) ∧ w = w' := by
  obtain ⟨h1, h2⟩ := lookV h c hc
  obtain ⟨a, cap, hv, _, _⟩ := hr.shape
  rw [hv] at h1 h2
  obtain ⟨n, hn⟩ : ∃ n, l.length = n := ⟨_, rfl⟩
  rw [hn] at h1 h2 ⊢
  clear h hr hv hn h1
  go_enter Try.func28, Try.ntmps28
  go_wp2_with fail
  go_ret
  exact ⟨rfl, rfl⟩

section
variable {B b bn bw : Nat} {N M : Int → Option Value} {f h : Int → List Ow} {D : Nat → Prop} {w : World}
set_option maxRecDepth 100000 in
/-- last. -/
theorem owLast (H : Bk B b bn bw N M f h D w) (c : Int) (hc : (Lit.int .i64 c).wf = true) :
    Calls Try.prog 30 #[.pointer (some ⟨b, 0, none⟩), .int .i64 c] w fun e w' => e = .returned (if (M c).isSome then getV M c else getV N c) ∧ w = w' := by
  obtain ⟨c0, c1⟩ := H.cells
  obtain ⟨m1, m2⟩ := lookV H.mw c hc
  obtain ⟨n1, n2⟩ := lookV H.mn c hc
  cases hM : (M c).isSome with
  | true =>
    rw [hM] at m1
    clear m2 n1 n2 H
    generalize getV M c = v at *
    go_enter Try.func30, Try.ntmps30
    go_wp2_with fail
    go_ret
    exact ⟨rfl, rfl⟩
  | false =>
    rw [hM] at m1
    clear m2 n1 H
    generalize getV N c = v at *
    generalize getV M c = u at *
    go_enter Try.func30, Try.ntmps30
    go_wp2_with fail
    go_ret
    exact ⟨rfl, rfl⟩

theorem owWas (H : Bk B b bn bw N M f h D w) (c : Int) (hc : (Lit.int .i64 c).wf = true) :
    Calls Try.prog 19 #[.pointer (some ⟨b, 0, none⟩), .int .i64 c] w fun e w' => e = .returned (.bool (decide (0 < (h c).length))) ∧ w = w' := by
  have C := Lib.hid (owLast H c hc)
  obtain ⟨a, cap, hv, _, _⟩ := (H.was c).shape
  rw [hv] at C
  obtain ⟨n, hn⟩ : ∃ n, (h c).length = n := ⟨_, rfl⟩
  rw [hn] at C ⊢
  clear H hv hn
  go_enter Try.func19, Try.ntmps19
  go_wp2_with (go_at_call 30; refine C.out.mono ?_; rintro e _ ⟨rfl, rfl⟩)
  go_ret
  exact ⟨rfl, rfl⟩

theorem owCount (H : Bk B b bn bw N M f h D w) (c : Int) (hc : (Lit.int .i64 c).wf = true) :
    Calls Try.prog 16 #[.pointer (some ⟨b, 0, none⟩), .int .i64 c] w fun e w' => e = .returned (.int .i64 ((f c).length : Nat)) ∧ w = w' := by
  obtain ⟨c0, c1⟩ := H.cells
  obtain ⟨n1, n2⟩ := lookV H.mn c hc
  obtain ⟨a, cap, hv, _, _⟩ := (H.row c).1.shape
  rw [hv] at n2
  obtain ⟨n, hn⟩ : ∃ n, (f c).length = n := ⟨_, rfl⟩
  rw [hn] at n2 ⊢
  clear H hv hn n1
  go_enter Try.func16, Try.ntmps16
  go_wp2_with fail
  go_ret
  exact ⟨rfl, rfl⟩

theorem owList (H : Bk B b bn bw N M f h D w) (c : Int) (hc : (Lit.int .i64 c).wf = true) (hl : (f c).length ≤ 2000) :
    Calls Try.prog 15 #[.pointer (some ⟨b, 0, none⟩), .int .i64 c] w (CloneO w (f c)) := by
  obtain ⟨c0, c1⟩ := H.cells
  obtain ⟨n1, n2⟩ := lookV H.mn c hc
  have C := Lib.hid (owClone (getV N c) (f c) B w (H.row c).1 (H.row c).2 hl)
  clear n1 H hl
  generalize getV N c = v at *
  go_enter Try.func15, Try.ntmps15
  go_wp2_with (go_at_call 29; refine C.out.mono ?_)
  rintro e V hR
  unfold CloneO at hR
  obtain ⟨v', rfl, hr, hk⟩ := hR
  have HR := Lib.hid (And.intro hr hk)
  clear hr hk C
  go_wp2_with fail
  go_ret
  exact ⟨_, rfl, HR.out.1, HR.out.2⟩

/-- Whether a chunk is somebody's alone. -/
def aloneB (f h : Int → List Ow) (c : Int) (o : Ow) : Bool := decide (f c = [o]) && (decide ((h c).length = 0) || decide (h c = [o]))

theorem len0 (n : Nat) : ((n : Int) == 0) = decide (n = 0) := by
  by_cases h : n = 0
  · subst h; rfl
  · rw [decide_eq_false h, beq_eq_false_iff_ne]; omega

set_option maxRecDepth 100000 in
theorem owAlone (H : Bk B b bn bw N M f h D w) (c : Int) (hc : (Lit.int .i64 c).wf = true) (o : Ow) :
    Calls Try.prog 17 #[.pointer (some ⟨b, 0, none⟩), .int .i64 c, ownV o] w fun e w' => e = .returned (.bool (aloneB f h c o)) ∧ KeptIn (· < w.heap.size) w w' := by
  obtain ⟨W, hW⟩ : ∃ W, w.alloc (.cells #[.int .i64 o.vol, .int .i64 o.bir, .int .i64 o.pos] 31) = W := ⟨_, rfl⟩
  have hk : KeptIn (· < w.heap.size) w W := by rw [← hW]; exact (KeptIn.refl _ w).alloc (fun _ h => h) _
  have hb : BoxO w.heap.size o W := by rw [← hW]; exact BoxO.new w o
  have H1 := H.old hk
  have C := Lib.hid (owLast H1 c hc)
  obtain ⟨a, cap, hv, _, _⟩ := (H1.was c).shape
  rw [hv] at C
  have HJ1 := Lib.hid fun (p : KW W) => owJust _ _ o B p.V ((H1.row c).1.old p.hk)
  have HJ2 := Lib.hid fun (p : KW W) => owJust _ _ o B p.V ((H1.was c).old p.hk)
  rw [hv] at HJ2
  have p0 : ∀ p : KW W, p.V.cell? ⟨b, 0, none⟩ = some (.map (some bn)) := fun p => (H1.old p.hk).cells.1
  have p1 : ∀ p : KW W, (Instr.lookup 55 (.map (some bn)) (.int .i64 c) false).run Try.prog p.V = .ok (getV N c) p.V := fun p => (lookV (H1.old p.hk).mn c hc).2
  have q0 : ∀ p : KW W, p.V.cell? ⟨w.heap.size, 0, none⟩ = some (.int .i64 o.vol) := fun p => (hb.old p.hk).cells.1
  have q1 : ∀ p : KW W, p.V.cell? ⟨w.heap.size, 1, none⟩ = some (.int .i64 o.bir) := fun p => (hb.old p.hk).cells.2.1
  have q2 : ∀ p : KW W, p.V.cell? ⟨w.heap.size, 2, none⟩ = some (.int .i64 o.pos) := fun p => (hb.old p.hk).cells.2.2
  obtain ⟨n, hn⟩ : ∃ n, (h c).length = n := ⟨_, rfl⟩
  rw [hn] at C HJ2
  have ha : aloneB f h c o = (decide (f c = [o]) && (decide (n = 0) || decide (h c = [o]))) := by unfold aloneB; rw [hn]
  rw [ha]
  obtain ⟨t1, ht1⟩ : ∃ t, decide (f c = [o]) = t := ⟨_, rfl⟩
  obtain ⟨t2, ht2⟩ : ∃ t, decide (h c = [o]) = t := ⟨_, rfl⟩
  obtain ⟨t3, ht3⟩ : ∃ t, decide (n = 0) = t := ⟨_, rfl⟩
  have z1 := (len0 n).trans ht3
  have z2 : (n == 0) = t3 := by rw [← ht3]; rfl
  rw [ht1] at HJ1 ⊢
  rw [ht2] at HJ2 ⊢
  rw [ht3]
  unfold ownV at *
  generalize getV N c = v1 at *
  have HJ : Hid (∀ (p : KW W) (v : Value) (t : Bool), (v = v1 ∧ t = t1) ∨ (v = .slice a n cap ∧ t = t2) → Calls Try.prog 31 #[v, .agg #[.int .i64 o.vol, .int .i64 o.bir, .int .i64 o.pos]] p.V fun e w' => e = .returned (.bool t) ∧ KeptIn (· < p.V.heap.size) p.V w') := Lib.hid fun p v t h => by
    rcases h with ⟨rfl, rfl⟩ | ⟨rfl, rfl⟩
    · exact HJ1.out p
    · exact HJ2.out p
  have HK := Lib.hid hk
  have HW := Lib.hid hW
  clear H H1 hb hk hW ha hv hn ht1 ht2 ht3 HJ1 HJ2
  go_enter Try.func17, Try.ntmps17
  go_wp2_with fail
  rw [HW.out]
  go_wp2_with (go_at_call 30; refine C.out.mono ?_; rintro e _ ⟨rfl, rfl⟩)
  cases t1 with
  | false =>
    refine wp_region_quiet_kept (by kernel_rfl) (by kernel_rfl) ?_
    repeat (go_big_quiet_step ((go_at_call 31; exact Calls.kept_of (HJ.out _ _ _ (by first | exact .inl ⟨rfl, rfl⟩ | exact .inr ⟨rfl, rfl⟩)))))
    refine wpQuiet_nil ?_
    intro _ hw'
    obtain ⟨⟨V, hV⟩, hw''⟩ := hw'
    subst hw''
    go_wp2_with fail
    go_ret
    exact ⟨rfl, HK.out.on hV⟩
  | true =>
    cases t3 with
    | true =>
      refine wp_region_quiet_kept (by kernel_rfl) (by kernel_rfl) ?_
      repeat (go_big_quiet_step ((go_at_call 31; exact Calls.kept_of (HJ.out _ _ _ (by first | exact .inl ⟨rfl, rfl⟩ | exact .inr ⟨rfl, rfl⟩)))))
      refine wpQuiet_nil ?_
      intro _ hw'
      obtain ⟨⟨V, hV⟩, hw''⟩ := hw'
      subst hw''
      go_wp2_with fail
      go_ret
      exact ⟨rfl, HK.out.on hV⟩
    | false =>
      refine wp_region_quiet_kept (by kernel_rfl) (by kernel_rfl) ?_
      repeat (go_big_quiet_step ((go_at_call 31; exact Calls.kept_of (HJ.out _ _ _ (by first | exact .inl ⟨rfl, rfl⟩ | exact .inr ⟨rfl, rfl⟩)))))
      refine wpQuiet_nil ?_
      intro _ hw'
      obtain ⟨⟨V, hV⟩, hw''⟩ := hw'
      subst hw''
      go_wp2_with fail
      go_ret
      exact ⟨rfl, HK.out.on hV⟩
end

end Go.Proofs.Ytononiedecpllaa
