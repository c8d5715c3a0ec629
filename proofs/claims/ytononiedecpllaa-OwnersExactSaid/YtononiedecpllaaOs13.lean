/- Owners: Add. -/
import Derived.Test.YtononiedecpllaaOq13
set_option linter.unusedVariables false
namespace Go.Proofs.Ytononiedecpllaa
open Go.RowKit Go.Maps

/-- A book at block b. -/
def BkA (B b : Nat) (f h : Int → List Ow) (D : Nat → Prop) (w : World) : Prop := ∃ bn bw N M, Bk B b bn bw N M f h D w
theorem BkA.kept {X : Nat → Prop} {B b : Nat} {f h : Int → List Ow} {D : Nat → Prop} {w w' : World} (H : BkA B b f h D w) (hk : KeptIn X w w') (hX : ∀ k, D k → k < w.heap.size → X k) : BkA B b f h D w' := by
  obtain ⟨bn, bw, N, M, H⟩ := H
  exact ⟨bn, bw, N, M, H.kept hk hX⟩
theorem BkA.old {B b : Nat} {f h : Int → List Ow} {D : Nat → Prop} {w w' : World} (H : BkA B b f h D w) (hk : KeptIn (· < w.heap.size) w w') : BkA B b f h D w' := H.kept hk fun _ _ h => h
theorem BkA.lt {B b : Nat} {f h : Int → List Ow} {D : Nat → Prop} {w : World} (H : BkA B b f h D w) : ∀ k, D k → B ≤ k ∧ k < w.heap.size := by
  obtain ⟨bn, bw, N, M, H⟩ := H
  exact fun k hk => ⟨H.dB k hk, H.dl k hk⟩
theorem BkA.srt {B b : Nat} {f h : Int → List Ow} {D : Nat → Prop} {w : World} (H : BkA B b f h D w) : ∀ c, Srt13 (f c) := by
  obtain ⟨bn, bw, N, M, H⟩ := H
  exact H.srt
theorem BkA.ran {B b : Nat} {f h : Int → List Ow} {D : Nat → Prop} {w : World} (H : BkA B b f h D w) : ∀ c, f c ≠ [] → 1 ≤ c ∧ c ≤ 1023 := by
  obtain ⟨bn, bw, N, M, H⟩ := H
  intro c hc
  cases hN : N c with
  | none => exact absurd (H.rz c hN) hc
  | some v => exact H.ran c v hN

/-- What a deed leaves. -/
def DeedS (B b : Nat) (f h : Int → List Ow) (D : Nat → Prop) (w : World) (v : Value) (e : Ending) (w' : World) : Prop :=
  e = .returned v ∧ ∃ D', BkA B b f h D' w' ∧ Went w D D' w'

theorem Bk.okay {B b bn bw : Nat} {N M : Int → Option Value} {f h : Int → List Ow} {D : Nat → Prop} {w w' : World} (H : Bk B b bn bw N M f h D w) (v : Value) (hk : KeptIn (· < w.heap.size) w w') : DeedS B b f h D w v (.returned v) w' :=
  ⟨rfl, D, ⟨bn, bw, N, M, H.old hk⟩, Went.same D hk⟩

def addE (f : Int → List Ow) (c : Int) (o : Ow) : Int := if c < 1 ∨ 1023 < c then 1 else if o ∈ f c then 8 else 0
def addF (f : Int → List Ow) (c : Int) (o : Ow) : Int → List Ow := if addE f c o = 0 then setF f c (insO (f c) o) else f

section
variable {B b bn bw : Nat} {N M : Int → Option Value} {f h : Int → List Ow} {D : Nat → Prop} {w : World}


set_option maxRecDepth 100000 in
theorem owAddArg (H : Bk B b bn bw N M f h D w) (c : Int) (o : Ow) (hcr : c < 1 ∨ 1023 < c) :
    Calls Try.prog 8 #[.pointer (some ⟨b, 0, none⟩), .int .i64 c, ownV o] w (DeedS B b f h D w (.int .i64 1)) := by
  obtain ⟨W, hW⟩ : ∃ W, w.alloc (.cells #[.int .i64 o.vol, .int .i64 o.bir, .int .i64 o.pos] 31) = W := ⟨_, rfl⟩
  have hk : KeptIn (· < w.heap.size) w W := by rw [← hW]; exact (KeptIn.refl _ w).alloc (fun _ h => h) _
  have hb : BoxO w.heap.size o W := by rw [← hW]; exact BoxO.new w o
  have H1 := H.old hk
  have HS := Lib.hid (H.okay (.int .i64 1) hk)
  have HW := Lib.hid hW
  unfold ownV
  clear H H1 hb hk hW
  by_cases h1 : c < 1
  · go_enter Try.func8, Try.ntmps8
    go_wp2_with fail
    rw [HW.out]
    go_wp2_with fail
    go_ret
    exact HS.out
  · have h2 : 1023 < c := by omega
    clear hcr
    go_enter Try.func8, Try.ntmps8
    go_wp2_with fail
    rw [HW.out]
    go_wp2_with fail
    go_ret
    exact HS.out

set_option maxRecDepth 100000 in
theorem owAddDup (H : Bk B b bn bw N M f h D w) (c : Int) (hc : (Lit.int .i64 c).wf = true) (o : Ow) (h1 : 1 ≤ c) (h2 : c ≤ 1023) (hl : (f c).length ≤ 2000) (ho : o ∈ f c) :
    Calls Try.prog 8 #[.pointer (some ⟨b, 0, none⟩), .int .i64 c, ownV o] w (DeedS B b f h D w (.int .i64 8)) := by
  obtain ⟨W, hW⟩ : ∃ W, w.alloc (.cells #[.int .i64 o.vol, .int .i64 o.bir, .int .i64 o.pos] 31) = W := ⟨_, rfl⟩
  have hk : KeptIn (· < w.heap.size) w W := by rw [← hW]; exact (KeptIn.refl _ w).alloc (fun _ h => h) _
  have hb : BoxO w.heap.size o W := by rw [← hW]; exact BoxO.new w o
  have H1 := H.old hk
  have HS := Lib.hid fun V (hV : KeptIn (· < W.heap.size) W V) => H.okay (.int .i64 8) (hk.on hV)
  have CF := Lib.hid fun (p : KW W) => owFind (getV N c) (f c) o B p.V ((H1.old p.hk).row c).1 (H1.srt c) hl
  have p0 : ∀ p : KW W, p.V.cell? ⟨b, 0, none⟩ = some (.map (some bn)) := fun p => (H1.old p.hk).cells.1
  have p1 : ∀ p : KW W, (Instr.lookup 55 (.map (some bn)) (.int .i64 c) false).run Try.prog p.V = .ok (getV N c) p.V := fun p => (lookV (H1.old p.hk).mn c hc).2
  have q0 : ∀ p : KW W, p.V.cell? ⟨w.heap.size, 0, none⟩ = some (.int .i64 o.vol) := fun p => (hb.old p.hk).cells.1
  have q1 : ∀ p : KW W, p.V.cell? ⟨w.heap.size, 1, none⟩ = some (.int .i64 o.bir) := fun p => (hb.old p.hk).cells.2.1
  have q2 : ∀ p : KW W, p.V.cell? ⟨w.heap.size, 2, none⟩ = some (.int .i64 o.pos) := fun p => (hb.old p.hk).cells.2.2
  rw [decide_eq_true ho] at CF
  unfold ownV at *
  have HW := Lib.hid hW
  generalize getV N c = v1 at *
  generalize plO (f c) o = i at *
  clear H H1 hb hk hW ho hl
  go_enter Try.func8, Try.ntmps8
  go_upto_region 1 with fail
  rw [HW.out]
  go_wp2_with fail
  refine wp_region_quiet_kept (by kernel_rfl) (by kernel_rfl) ?_
  repeat (go_big_quiet_step ((go_at_call 23; exact Calls.kept_of (CF.out _))))
  refine wpQuiet_nil ?_
  intro _ hw'
  obtain ⟨⟨V, hV⟩, hw''⟩ := hw'
  subst hw''
  go_wp2_with fail
  go_ret
  exact HS.out _ hV

set_option maxRecDepth 100000 in
set_option maxHeartbeats 1000000 in
theorem owAddOk (H : Bk B b bn bw N M f h D w) (c : Int) (hc : (Lit.int .i64 c).wf = true) (o : Ow) (h1 : 1 ≤ c) (h2 : c ≤ 1023) (hl : (f c).length ≤ 2000) (ho : o ∉ f c) :
    Calls Try.prog 8 #[.pointer (some ⟨b, 0, none⟩), .int .i64 c, ownV o] w (DeedS B b (setF f c (insO (f c) o)) h D w (.int .i64 0)) := by
  obtain ⟨W, hW⟩ : ∃ W, w.alloc (.cells #[.int .i64 o.vol, .int .i64 o.bir, .int .i64 o.pos] 31) = W := ⟨_, rfl⟩
  have hk : KeptIn (· < w.heap.size) w W := by rw [← hW]; exact (KeptIn.refl _ w).alloc (fun _ h => h) _
  have hb : BoxO w.heap.size o W := by rw [← hW]; exact BoxO.new w o
  have H1 := H.old hk
  have HR := Lib.hid fun V (hV : KeptIn (· < W.heap.size) W V) => owRem (H1.old hV) c hc h1 h2 hl
  have HI : Hid (∀ V M' D' , Bk B b bn bw N M' f h D' V → (M' c).isSome = true → Calls Try.prog 25 #[.map (some bn), .int .i64 c, .int .i64 (plO (f c) o : Nat), ownV o] V (TabS B b bn bw M' (setF f c (insO (f c) o)) h D' V)) :=
    Lib.hid fun V M' D' h3 h4 => owIns h3 c hc h1 h2 hl o h4 ho
  have CF := Lib.hid fun (p : KW W) => owFind (getV N c) (f c) o B p.V ((H1.old p.hk).row c).1 (H1.srt c) hl
  have p0 : ∀ p : KW W, p.V.cell? ⟨b, 0, none⟩ = some (.map (some bn)) := fun p => (H1.old p.hk).cells.1
  have p1 : ∀ p : KW W, (Instr.lookup 55 (.map (some bn)) (.int .i64 c) false).run Try.prog p.V = .ok (getV N c) p.V := fun p => (lookV (H1.old p.hk).mn c hc).2
  have q0 : ∀ p : KW W, p.V.cell? ⟨w.heap.size, 0, none⟩ = some (.int .i64 o.vol) := fun p => (hb.old p.hk).cells.1
  have q1 : ∀ p : KW W, p.V.cell? ⟨w.heap.size, 1, none⟩ = some (.int .i64 o.bir) := fun p => (hb.old p.hk).cells.2.1
  have q2 : ∀ p : KW W, p.V.cell? ⟨w.heap.size, 2, none⟩ = some (.int .i64 o.pos) := fun p => (hb.old p.hk).cells.2.2
  rw [decide_eq_false ho] at CF
  unfold ownV at *
  have HW := Lib.hid hW
  have HK := Lib.hid hk
  have HB := Lib.hid hb
  have HL := Lib.hid (And.intro (fun k hk => H.dl k hk) H.hB)
  obtain ⟨F, hF⟩ : ∃ F, setF f c (insO (f c) o) = F := ⟨_, rfl⟩
  rw [hF] at HI ⊢
  generalize getV N c = v1 at *
  generalize plO (f c) o = i at *
  clear H H1 hb hk hW ho hl hF
  go_enter Try.func8, Try.ntmps8
  go_upto_region 1 with fail
  rw [HW.out]
  go_wp2_with fail
  refine wp_region_quiet_kept (by kernel_rfl) (by kernel_rfl) ?_
  repeat (go_big_quiet_step ((go_at_call 23; exact Calls.kept_of (CF.out _))))
  refine wpQuiet_nil ?_
  intro _ hw'
  obtain ⟨⟨V, hV⟩, hw''⟩ := hw'
  subst hw''
  clear p0 p1 q0 q1 q2 CF
  go_wp2_with fail
  refine (HR.out _ hV).mono ?_
  rintro e V2 hR
  unfold RemS at hR
  obtain ⟨rfl, M', D', h3, h4, h5⟩ := hR
  have hbx : BoxO w.heap.size o V2 := (HB.out.old hV).kept h5.kept ⟨Nat.lt_of_lt_of_le HB.out.lt hV.size, fun hd => absurd (HL.out.1 _ hd) (Nat.lt_irrefl _)⟩
  have hbl : ¬ D' w.heap.size := fun hd => by
    rcases h5.new _ hd with h6 | h6
    · exact absurd (HL.out.1 _ h6) (Nat.lt_irrefl _)
    · have := HB.out.lt
      have := hV.size
      omega
  have hw5 := ((Went.same D HK.out).trans (Went.same D hV)).trans h5
  have k0 : KeptIn (· < V2.heap.size) V2 V2.drew := (KeptIn.refl _ _).drew
  have CI := Lib.hid (HI.out _ M' D' (h3.old k0) h4)
  have HE : Hid (∀ V3, TabS B b bn bw M' F h D' V2.drew (.returned (.tuple #[])) V3 → (V3.cell? ⟨b, 0, none⟩ = some (.map (some bn)) ∧ V3.cell? ⟨w.heap.size, 0, none⟩ = some (.int .i64 o.vol) ∧ V3.cell? ⟨w.heap.size, 1, none⟩ = some (.int .i64 o.bir) ∧ V3.cell? ⟨w.heap.size, 2, none⟩ = some (.int .i64 o.pos)) ∧ DeedS B b F h D w (.int .i64 0) (.returned (.int .i64 0)) V3) := Lib.hid fun V3 hT => by
    obtain ⟨_, N', D'', h6, h7⟩ := hT
    have hb3 : BoxO w.heap.size o V3 := (hbx.old k0).kept h7.kept ⟨Nat.lt_of_lt_of_le hbx.lt k0.size, hbl⟩
    exact ⟨⟨h6.cells.1, hb3.cells⟩, rfl, D'', ⟨_, _, _, _, h6⟩, hw5.trans ((Went.same D' k0).trans h7)⟩
  have p0 := (h3.old k0).cells.1
  obtain ⟨q0, q1, q2⟩ := (hbx.old k0).cells
  clear h3 h4 h5 hbx hbl hw5 hV
  go_wp2_with fail
  go_region_held3 (fun V => V.cell? ⟨b, 0, none⟩ = some (.map (some bn)) ∧ V.cell? ⟨w.heap.size, 0, none⟩ = some (.int .i64 o.vol) ∧ V.cell? ⟨w.heap.size, 1, none⟩ = some (.int .i64 o.bir) ∧ V.cell? ⟨w.heap.size, 2, none⟩ = some (.int .i64 o.pos))
    (first | exact ⟨p0, q0, q1, q2⟩ | exact hs | go_keep)
    (first | (go_at_call 25; refine CI.out.mono ?_; intro e V3 hT; obtain rfl : e = .returned (.tuple #[]) := hT.1; obtain ⟨hs, hD⟩ := HE.out V3 hT))
  all_goals
    have HD := Lib.hid hD
    clear CI HE hD
    go_wp2_with fail
    go_ret
    exact HD.out

theorem owAdd (H : Bk B b bn bw N M f h D w) (c : Int) (hc : (Lit.int .i64 c).wf = true) (o : Ow) (hl : (f c).length ≤ 2000) :
    Calls Try.prog 8 #[.pointer (some ⟨b, 0, none⟩), .int .i64 c, ownV o] w (DeedS B b (addF f c o) h D w (.int .i64 (addE f c o))) := by
  by_cases hcr : c < 1 ∨ 1023 < c
  · have e : addE f c o = 1 := if_pos hcr
    have e2 : addF f c o = f := by unfold addF; rw [e]; rfl
    rw [e, e2]
    exact owAddArg H c o hcr
  · by_cases ho : o ∈ f c
    · have e : addE f c o = 8 := by unfold addE; rw [if_neg hcr, if_pos ho]
      have e2 : addF f c o = f := by unfold addF; rw [e]; rfl
      rw [e, e2]
      exact owAddDup H c hc o (by omega) (by omega) hl ho
    · have e : addE f c o = 0 := by unfold addE; rw [if_neg hcr, if_neg ho]
      have e2 : addF f c o = setF f c (insO (f c) o) := by unfold addF; rw [e]; rfl
      rw [e, e2]
      exact owAddOk H c hc o (by omega) (by omega) hl ho
end

end Go.Proofs.Ytononiedecpllaa
