/- Owners: Remove, Commit, New; where there is no book. -/
import Derived.Test.YtononiedecpllaaOs13
set_option linter.unusedVariables false
namespace Go.Proofs.Ytononiedecpllaa
open Go.RowKit Go.Maps

def remE (f : Int → List Ow) (c : Int) (o : Ow) : Bool × Int := if o ∈ f c then (decide (delO (f c) o = []), 0) else (false, 7)
def remF (f : Int → List Ow) (c : Int) (o : Ow) : Int → List Ow := if o ∈ f c then setF f c (delO (f c) o) else f

section
variable {B b bn bw : Nat} {N M : Int → Option Value} {f h : Int → List Ow} {D : Nat → Prop} {w : World}


set_option maxRecDepth 100000 in
theorem owRemoveNo (H : Bk B b bn bw N M f h D w) (c : Int) (hc : (Lit.int .i64 c).wf = true) (o : Ow) (hl : (f c).length ≤ 2000) (ho : o ∉ f c) :
    Calls Try.prog 11 #[.pointer (some ⟨b, 0, none⟩), .int .i64 c, ownV o] w (DeedS B b f h D w (.tuple #[.bool false, .int .i64 7])) := by
  obtain ⟨W, hW⟩ : ∃ W, w.alloc (.cells #[.int .i64 o.vol, .int .i64 o.bir, .int .i64 o.pos] 31) = W := ⟨_, rfl⟩
  have hk : KeptIn (· < w.heap.size) w W := by rw [← hW]; exact (KeptIn.refl _ w).alloc (fun _ h => h) _
  have hb : BoxO w.heap.size o W := by rw [← hW]; exact BoxO.new w o
  have H1 := H.old hk
  have HS := Lib.hid fun V (hV : KeptIn (· < W.heap.size) W V) => H.okay (.tuple #[.bool false, .int .i64 7]) (hk.on hV)
  have CF := Lib.hid fun (p : KW W) => owFind (getV N c) (f c) o B p.V ((H1.old p.hk).row c).1 (H1.srt c) hl
  have p0 : ∀ p : KW W, p.V.cell? ⟨b, 0, none⟩ = some (.map (some bn)) := fun p => (H1.old p.hk).cells.1
  have p1 : ∀ p : KW W, (Instr.lookup 55 (.map (some bn)) (.int .i64 c) false).run Try.prog p.V = .ok (getV N c) p.V := fun p => (lookV (H1.old p.hk).mn c hc).2
  have q0 : ∀ p : KW W, p.V.cell? ⟨w.heap.size, 0, none⟩ = some (.int .i64 o.vol) := fun p => (hb.old p.hk).cells.1
  have q1 : ∀ p : KW W, p.V.cell? ⟨w.heap.size, 1, none⟩ = some (.int .i64 o.bir) := fun p => (hb.old p.hk).cells.2.1
  have q2 : ∀ p : KW W, p.V.cell? ⟨w.heap.size, 2, none⟩ = some (.int .i64 o.pos) := fun p => (hb.old p.hk).cells.2.2
  rw [decide_eq_false ho] at CF
  unfold ownV at *
  have HW := Lib.hid hW
  generalize getV N c = v1 at *
  generalize plO (f c) o = i at *
  clear H H1 hb hk hW ho hl
  go_enter Try.func11, Try.ntmps11
  go_upto_region 1 with fail
  rw [HW.out]
  go_wp2_with fail
  refine wp_region_quiet_kept (by kernel_rfl) (by kernel_rfl) ?_
  repeat (go_big_quiet_step ((go_at_call 23; exact Calls.kept_of (CF.out _))))
  refine wpQuiet_nil ?_
  intro _ hw'
  obtain ⟨⟨V, hV⟩, hw''⟩ := hw'
  subst hw''
  go_wp2_with fail
  go_ret2
  exact HS.out _ hV

set_option maxRecDepth 100000 in
set_option maxHeartbeats 1000000 in
theorem owRemoveYes (H : Bk B b bn bw N M f h D w) (c : Int) (hc : (Lit.int .i64 c).wf = true) (o : Ow) (hl : (f c).length ≤ 2000) (ho : o ∈ f c) :
    Calls Try.prog 11 #[.pointer (some ⟨b, 0, none⟩), .int .i64 c, ownV o] w (DeedS B b (setF f c (delO (f c) o)) h D w (.tuple #[.bool (decide (delO (f c) o = [])), .int .i64 0])) := by
  obtain ⟨h1, h2⟩ : 1 ≤ c ∧ c ≤ 1023 := by
    cases hN : N c with
    | none => rw [H.rz c hN] at ho; cases ho
    | some v => exact H.ran c v hN
  obtain ⟨W, hW⟩ : ∃ W, w.alloc (.cells #[.int .i64 o.vol, .int .i64 o.bir, .int .i64 o.pos] 31) = W := ⟨_, rfl⟩
  have hk : KeptIn (· < w.heap.size) w W := by rw [← hW]; exact (KeptIn.refl _ w).alloc (fun _ h => h) _
  have hb : BoxO w.heap.size o W := by rw [← hW]; exact BoxO.new w o
  have H1 := H.old hk
  have HR := Lib.hid fun V (hV : KeptIn (· < W.heap.size) W V) => owRem (H1.old hV) c hc h1 h2 hl
  have HI : Hid (∀ V M' D' , Bk B b bn bw N M' f h D' V → (M' c).isSome = true → Calls Try.prog 27 #[.map (some bn), .int .i64 c, .int .i64 (plO (f c) o : Nat)] V (TabS B b bn bw M' (setF f c (delO (f c) o)) h D' V)) :=
    Lib.hid fun V M' D' h3 h4 => owCut h3 c hc h1 h2 hl o h4 ho
  have CF := Lib.hid fun (p : KW W) => owFind (getV N c) (f c) o B p.V ((H1.old p.hk).row c).1 (H1.srt c) hl
  have p0 : ∀ p : KW W, p.V.cell? ⟨b, 0, none⟩ = some (.map (some bn)) := fun p => (H1.old p.hk).cells.1
  have p1 : ∀ p : KW W, (Instr.lookup 55 (.map (some bn)) (.int .i64 c) false).run Try.prog p.V = .ok (getV N c) p.V := fun p => (lookV (H1.old p.hk).mn c hc).2
  have q0 : ∀ p : KW W, p.V.cell? ⟨w.heap.size, 0, none⟩ = some (.int .i64 o.vol) := fun p => (hb.old p.hk).cells.1
  have q1 : ∀ p : KW W, p.V.cell? ⟨w.heap.size, 1, none⟩ = some (.int .i64 o.bir) := fun p => (hb.old p.hk).cells.2.1
  have q2 : ∀ p : KW W, p.V.cell? ⟨w.heap.size, 2, none⟩ = some (.int .i64 o.pos) := fun p => (hb.old p.hk).cells.2.2
  rw [decide_eq_true ho] at CF
  unfold ownV at *
  have HW := Lib.hid hW
  have HK := Lib.hid hk
  have hFc : setF f c (delO (f c) o) c = delO (f c) o := setF_same _ _ _
  obtain ⟨L', hL'⟩ : ∃ L', delO (f c) o = L' := ⟨_, rfl⟩
  obtain ⟨F, hF⟩ : ∃ F, setF f c (delO (f c) o) = F := ⟨_, rfl⟩
  rw [hF] at HI hFc ⊢
  rw [hL'] at hFc ⊢
  have HFc := Lib.hid hFc
  obtain ⟨t, ht⟩ : ∃ t, decide (L' = []) = t := ⟨_, rfl⟩
  rw [ht]
  have HT : Hid (decide (0 < L'.length) = !t) := Lib.hid (by
    rw [← ht]
    cases L' with
    | nil => rfl
    | cons a r => rw [decide_eq_true (by simp), decide_eq_false (by simp)]; rfl)
  generalize getV N c = v1 at *
  generalize plO (f c) o = i at *
  clear H H1 hb hk hW ho hl hF hFc hL' ht h1 h2
  go_enter Try.func11, Try.ntmps11
  go_upto_region 1 with fail
  rw [HW.out]
  go_wp2_with fail
  refine wp_region_quiet_kept (by kernel_rfl) (by kernel_rfl) ?_
  repeat (go_big_quiet_step ((go_at_call 23; exact Calls.kept_of (CF.out _))))
  refine wpQuiet_nil ?_
  intro _ hw'
  obtain ⟨⟨V, hV⟩, hw''⟩ := hw'
  subst hw''
  clear p0 p1 q0 q1 q2 CF
  go_wp2_with fail
  refine (HR.out _ hV).mono ?_
  rintro e V2 hR
  unfold RemS at hR
  obtain ⟨rfl, M', D', h3, h4, h5⟩ := hR
  have hw5 := ((Went.same D HK.out).trans (Went.same D hV)).trans h5
  have CI := Lib.hid (HI.out _ M' D' h3 h4)
  have p0 := h3.cells.1
  have HE : Hid (∀ V3, TabS B b bn bw M' F h D' V2 (.returned (.tuple #[])) V3 → V3.cell? ⟨b, 0, none⟩ = some (.map (some bn)) ∧ Calls Try.prog 28 #[.map (some bn), .int .i64 c] V3 (fun e w' => e = .returned (.bool (!t)) ∧ V3 = w') ∧ DeedS B b F h D w (.tuple #[.bool t, .int .i64 0]) (.returned (.tuple #[.bool t, .int .i64 0])) V3) := Lib.hid fun V3 hT => by
    obtain ⟨_, N', D'', h6, h7⟩ := hT
    have hh := owHas h6.mn c hc B (F c) (h6.row c).1
    rw [HFc.out, HT.out] at hh
    exact ⟨h6.cells.1, hh, rfl, D'', ⟨_, _, _, _, h6⟩, hw5.trans h7⟩
  clear h3 h4 h5 hw5 hV HT HFc
  go_wp2_with (go_at_call 27; refine CI.out.mono ?_)
  intro e V3 hT
  obtain rfl : e = .returned (.tuple #[]) := hT.1
  obtain ⟨p3, hh, hD⟩ := HE.out V3 hT
  have HH := Lib.hid hh
  have HD := Lib.hid hD
  clear CI HE hD hT hh p0
  cases t
  · go_wp2_with (go_at_call 28; refine HH.out.mono ?_; rintro e _ ⟨rfl, rfl⟩)
    go_ret2
    exact HD.out
  · go_wp2_with (go_at_call 28; refine HH.out.mono ?_; rintro e _ ⟨rfl, rfl⟩)
    go_ret2
    exact HD.out

theorem owRemove (H : Bk B b bn bw N M f h D w) (c : Int) (hc : (Lit.int .i64 c).wf = true) (o : Ow) (hl : (f c).length ≤ 2000) :
    Calls Try.prog 11 #[.pointer (some ⟨b, 0, none⟩), .int .i64 c, ownV o] w (DeedS B b (remF f c o) h D w (.tuple #[.bool (remE f c o).1, .int .i64 (remE f c o).2])) := by
  by_cases ho : o ∈ f c
  · have e : remE f c o = (decide (delO (f c) o = []), 0) := if_pos ho
    have e2 : remF f c o = setF f c (delO (f c) o) := if_pos ho
    rw [e, e2]
    exact owRemoveYes H c hc o hl ho
  · have e : remE f c o = (false, 7) := if_neg ho
    have e2 : remF f c o = f := if_neg ho
    rw [e, e2]
    exact owRemoveNo H c hc o hl ho

theorem owCommit (H : Bk B b bn bw N M f h D w) :
    Calls Try.prog 14 #[.pointer (some ⟨b, 0, none⟩)] w (DeedS B b f f D w (.tuple #[])) := by
  obtain ⟨c0, c1⟩ := H.cells
  obtain ⟨W2, hcl, hm, hk, hs⟩ := H.mw.clear Try.underlying55 0
  have hcl' : ∀ ty, (Builtin.clear_ #[55] ty #[.map (some bw)]).run Try.prog w = .ok (.tuple #[]) W2 := fun ty => hcl
  have hS : DeedS B b f f D w (.tuple #[]) (.returned (.tuple #[])) W2 := ⟨rfl, D, ⟨_, _, _, _, H.commit hk (hm.mono (by omega))⟩, hk.mono fun k hk e => hk.2 (e ▸ H.din.2.2), fun k hk => .inl hk⟩
  have HS := Lib.hid hS
  clear hS hm hk hs hcl H
  go_enter Try.func14, Try.ntmps14
  go_wp2_with fail
  go_end0
  exact HS.out
end

/-- A new book. -/
def NewO (w : World) (e : Ending) (w' : World) : Prop :=
  ∃ b D, e = .returned (.pointer (some ⟨b, 0, none⟩)) ∧ BkA w.heap.size b (fun _ => []) (fun _ => []) D w' ∧ KeptIn (· < w.heap.size) w w'

set_option maxRecDepth 100000 in
theorem owNew (w : World) : Calls Try.prog 7 #[] w (NewO w) := by
  obtain ⟨W1, hW1⟩ : ∃ W, w.alloc (.map #[] 0) = W := ⟨_, rfl⟩
  obtain ⟨W2, hW2⟩ : ∃ W, W1.alloc (.map #[] 0) = W := ⟨_, rfl⟩
  obtain ⟨W3, hW3⟩ : ∃ W, W2.alloc (.cells #[.map (some w.heap.size), .map (some W1.heap.size)] 57) = W := ⟨_, rfl⟩
  have k1 : KeptIn (· < w.heap.size) w W1 := by rw [← hW1]; exact (KeptIn.refl _ w).alloc (fun _ h => h) _
  have k2 : KeptIn (· < W1.heap.size) W1 W2 := by rw [← hW2]; exact (KeptIn.refl _ W1).alloc (fun _ h => h) _
  have k3 : KeptIn (· < W2.heap.size) W2 W3 := by rw [← hW3]; exact (KeptIn.refl _ W2).alloc (fun _ h => h) _
  have m1 : MpAt (fun v : Value => v) w.heap.size 0 (fun _ => none) W1 := by rw [← hW1]; exact MpAt.new w
  have m2 : MpAt (fun v : Value => v) W1.heap.size 0 (fun _ => none) W2 := by rw [← hW2]; exact MpAt.new W1
  have hb : W3.heap[W2.heap.size]? = some (.cells #[.map (some w.heap.size), .map (some W1.heap.size)] 57 (0, 0)) := by rw [← hW3]; exact heap_alloc_new _ _
  have m1' : MpAt (fun v : Value => v) w.heap.size 1024 (fun _ => none) W3 := ((m1.kept k2 m1.lt).kept k3 (Nat.lt_of_lt_of_le m1.lt k2.size)).mono (by omega)
  have m2' : MpAt (fun v : Value => v) W1.heap.size 1024 (fun _ => none) W3 := (m2.kept k3 m2.lt).mono (by omega)
  have hN : NewO w (.returned (.pointer (some ⟨W2.heap.size, 0, none⟩))) W3 := by
    refine ⟨W2.heap.size, fun k => w.heap.size ≤ k ∧ k < W3.heap.size, rfl, ⟨w.heap.size, W1.heap.size, fun _ => none, fun _ => none, ?_⟩, (k1.on k2).on k3⟩
    have := k1.size
    have := k2.size
    have := k3.size
    have := m1.lt
    have := m2.lt
    have := m1'.lt
    have := m2'.lt
    have := (Array.getElem?_eq_some_iff.1 hb).1
    exact ⟨hb, m1', m2', by omega, fun _ _ h => (by cases h), fun _ _ => rfl, fun _ _ h => (by cases h), fun _ _ => rfl, fun _ _ h => (by cases h), fun _ _ h => (by cases h), fun _ => List.Pairwise.nil, fun _ _ _ _ _ h => (by cases h), fun _ _ _ _ _ h => (by cases h), ⟨⟨by omega, by omega⟩, ⟨Nat.le_refl _, by omega⟩, ⟨by omega, by omega⟩⟩, fun _ _ _ h => (by cases h), fun _ _ _ h => (by cases h), fun k hk => hk.1, fun k hk => hk.2⟩
  have HN := Lib.hid hN
  have H1 := Lib.hid hW1
  have H2 := Lib.hid hW2
  have H3 := Lib.hid hW3
  clear hN hW1 hW2 hW3 k1 k2 k3 m1 m2 m1' m2' hb
  have hmm := @run_makeMap Try.prog
  go_enter Try.func7, Try.ntmps7
  go_wp2_with fail
  go_ret
  have hx := HN.out
  rw [← H3.out, ← H2.out, ← H1.out] at hx
  simp only [World.size_alloc] at hx
  exact hx

/-- Of nil nothing. -/
theorem owNilAdd (c : Int) (o : Ow) (w : World) : Calls Try.prog 8 #[.pointer none, .int .i64 c, ownV o] w fun e w' => e = .returned (.int .i64 2) ∧ KeptIn (· < w.heap.size) w w' := by
  unfold ownV
  go_enter Try.func8, Try.ntmps8
  go_wp2_with fail
  go_ret
  exact ⟨rfl, (KeptIn.refl _ w).alloc (fun _ h => h) _⟩
theorem owNilRemove (c : Int) (o : Ow) (w : World) : Calls Try.prog 11 #[.pointer none, .int .i64 c, ownV o] w fun e w' => e = .returned (.tuple #[.bool false, .int .i64 2]) ∧ KeptIn (· < w.heap.size) w w' := by
  unfold ownV
  go_enter Try.func11, Try.ntmps11
  go_wp2_with fail
  go_ret2
  exact ⟨rfl, (KeptIn.refl _ w).alloc (fun _ h => h) _⟩
theorem owNilAlone (c : Int) (o : Ow) (w : World) : Calls Try.prog 17 #[.pointer none, .int .i64 c, ownV o] w fun e w' => e = .returned (.bool false) ∧ KeptIn (· < w.heap.size) w w' := by
  unfold ownV
  go_enter Try.func17, Try.ntmps17
  go_wp2_with fail
  go_ret
  exact ⟨rfl, (KeptIn.refl _ w).alloc (fun _ h => h) _⟩
theorem owNilCommit (w : World) : Calls Try.prog 14 #[.pointer none] w fun e w' => e = .returned (.tuple #[]) ∧ w = w' := by
  go_enter Try.func14, Try.ntmps14
  go_wp2_with fail
  refine bodyPost_ret (results_none rfl _ _ _) rfl ?_
  exact ⟨rfl, rfl⟩
theorem owNilCount (c : Int) (w : World) : Calls Try.prog 16 #[.pointer none, .int .i64 c] w fun e w' => e = .returned (.int .i64 0) ∧ w = w' := by
  go_enter Try.func16, Try.ntmps16
  go_wp2_with fail
  go_ret
  exact ⟨rfl, rfl⟩
theorem owNilFree (w : World) : Calls Try.prog 20 #[.pointer none] w fun e w' => e = .returned (.int .i64 0) ∧ w = w' := by
  go_enter Try.func20, Try.ntmps20
  go_wp2_with fail
  go_ret
  exact ⟨rfl, rfl⟩
theorem owNilList (c : Int) (w : World) : Calls Try.prog 15 #[.pointer none, .int .i64 c] w fun e w' => e = .returned (.slice none 0 0) ∧ w = w' := by
  go_enter Try.func15, Try.ntmps15
  go_wp2_with fail
  go_ret
  exact ⟨rfl, rfl⟩
theorem owNilChunks (w : World) : Calls Try.prog 22 #[.pointer none] w fun e w' => e = .returned (.slice none 0 0) ∧ w = w' := by
  go_enter Try.func22, Try.ntmps22
  go_wp2_with fail
  go_ret
  exact ⟨rfl, rfl⟩
theorem owNilWas (c : Int) (w : World) : Calls Try.prog 19 #[.pointer none, .int .i64 c] w fun e w' => e = .returned (.bool false) ∧ w = w' := by
  go_enter Try.func19, Try.ntmps19
  go_wp2_with fail
  go_ret
  exact ⟨rfl, rfl⟩

end Go.Proofs.Ytononiedecpllaa
