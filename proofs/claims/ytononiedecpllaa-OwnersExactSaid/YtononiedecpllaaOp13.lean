/- Owners: what changes a book. -/
import Derived.Test.YtononiedecpllaaOh13
set_option linter.unusedVariables false
namespace Go.Proofs.Ytononiedecpllaa
open Go.RowKit Go.Maps

/-- What a call leaves of all that isn't the book's; what the book has come to be made of. -/
structure Went (w : World) (D D' : Nat → Prop) (w' : World) : Prop where
  kept : KeptIn (fun k => k < w.heap.size ∧ ¬ D k) w w'
  new : ∀ k, D' k → D k ∨ w.heap.size ≤ k
theorem Went.trans {w w1 w2 : World} {D D1 D2 : Nat → Prop} (a : Went w D D1 w1) (b : Went w1 D1 D2 w2) : Went w D D2 w2 := by
  refine ⟨a.kept.trans (b.kept.mono fun k hk => ⟨Nat.lt_of_lt_of_le hk.1 a.kept.size, fun h => ?_⟩), fun k hk => ?_⟩
  · rcases a.new k h with h1 | h1
    · exact hk.2 h1
    · omega
  · rcases b.new k hk with h1 | h1
    · exact a.new k h1
    · have := a.kept.size
      exact .inr (by omega)
theorem Went.same {w w' : World} (D : Nat → Prop) (h : KeptIn (· < w.heap.size) w w') : Went w D D w' := ⟨h.mono fun k hk => hk.1, fun k hk => .inl hk⟩
/-- What was there, and all that was laid since. -/
def New13 (w : World) (D : Nat → Prop) (W : World) (k : Nat) : Prop := D k ∨ (w.heap.size ≤ k ∧ k < W.heap.size)
theorem Went.more {w w' : World} {D : Nat → Prop} (h : KeptIn (fun k => k < w.heap.size ∧ ¬ D k) w w') : Went w D (New13 w D w') w' := ⟨h, fun k hk => hk.imp id And.left⟩

theorem mpPut_same (N : Int → Option Value) (c : Int) (v : Value) : mpPut N c v c = some v := if_pos rfl
theorem mpPut_other (N : Int → Option Value) {c d : Int} (v : Value) (h : d ≠ c) : mpPut N c v d = N d := if_neg h
theorem mpDel_same (N : Int → Option Value) (c : Int) : mpDel N c c = none := if_pos rfl
theorem mpDel_other (N : Int → Option Value) {c d : Int} (h : d ≠ c) : mpDel N c d = N d := if_neg h

section
variable {B b bn bw : Nat} {N M : Int → Option Value} {f h : Int → List Ow} {D : Nat → Prop} {w W : World}

theorem Bk.ne_own (H : Bk B b bn bw N M f h D w) (c : Int) : (getV N c).ownBlock ≠ some b ∧ (getV N c).ownBlock ≠ some bw ∧ (getV N c).ownBlock ≠ some bn := by
  have key : ∀ k, (getV N c).ownBlock = some k → ∃ cur, w.heap[k]? = some (.cells cur 31 (0, 0)) := fun k hk => (H.row c).1.typ hk
  refine ⟨fun e => ?_, fun e => ?_, fun e => ?_⟩
  · obtain ⟨cur, hc⟩ := key _ e
    rw [H.hb] at hc
    simp only [Option.some.injEq, Obj.cells.injEq] at hc
    exact absurd hc.2.1 (by decide)
  · obtain ⟨cur, hc⟩ := key _ e
    exact H.mw.ne hc rfl
  · obtain ⟨cur, hc⟩ := key _ e
    exact H.mn.ne hc rfl
theorem Bk.b_ne (H : Bk B b bn bw N M f h D w) : b ≠ bn ∧ b ≠ bw := ⟨H.mn.ne H.hb, H.mw.ne H.hb⟩
theorem getV_some {N : Int → Option Value} {c : Int} {v : Value} (h : N c = some v) : getV N c = v := by unfold getV; rw [h]; rfl
theorem Bk.own_mn (H : Bk B b bn bw N M f h D w) {c : Int} {v : Value} {g : Nat} (hc : N c = some v) (hg : v.ownBlock = some g) : g ≠ bn ∧ g ≠ bw ∧ g < w.heap.size := by
  have h1 := H.ne_own c
  rw [getV_some hc] at h1
  exact ⟨fun e => h1.2.2 (by rw [← e]; exact hg), fun e => h1.2.1 (by rw [← e]; exact hg), ((H.rn c v hc).1.lt hg).2⟩
theorem Bk.own_mw (H : Bk B b bn bw N M f h D w) {c : Int} {v : Value} {g : Nat} (hc : M c = some v) (hg : v.ownBlock = some g) : g ≠ bn ∧ g ≠ bw ∧ g < w.heap.size := by
  obtain ⟨cur, hcc⟩ := (H.mr c v hc).typ hg
  exact ⟨H.mn.ne hcc, H.mw.ne hcc, ((H.mr c v hc).lt hg).2⟩
theorem Bk.own_ap (H : Bk B b bn bw N M f h D w) {c d : Int} {u : Value} {g : Nat} (hd : N d = some u) (hne : c ≠ d) (hg : u.ownBlock = some g) : (getV N c).ownBlock ≠ some g := by
  unfold getV
  cases hc : N c with
  | none => intro e; cases e
  | some v => intro e; exact H.ap c d v u g hc hd hne e hg
theorem Bk.own_ap2 (H : Bk B b bn bw N M f h D w) {c d : Int} {u : Value} {g : Nat} (hd : M d = some u) (hg : u.ownBlock = some g) : (getV N c).ownBlock ≠ some g := by
  unfold getV
  cases hc : N c with
  | none => intro e; cases e
  | some v => intro e; exact H.ap2 c d v u g hc hd e hg
theorem Bk.hB (H : Bk B b bn bw N M f h D w) : B ≤ w.heap.size := by
  have := H.dB b H.din.1
  have := H.lt
  omega

/-- One chunk has other owners now. -/
theorem Bk.change (H : Bk B b bn bw N M f h D w) {c : Int} {v : Value} {l : List Ow} (hk : KeptIn (fun k => k < w.heap.size ∧ k ≠ bn ∧ (getV N c).ownBlock ≠ some k) w W) (hm : MpAt (fun v : Value => v) bn 1024 (mpPut N c v) W)
    (hr : RowO W B v l) (hl : l ≠ []) (hs : Srt13 l) (hv : ∀ g, v.ownBlock = some g → (getV N c).ownBlock = some g ∨ w.heap.size ≤ g) (hM : (M c).isSome = true) (h1 : 1 ≤ c) (h2 : c ≤ 1023) :
    Bk B b bn bw (mpPut N c v) M (setF f c l) h (New13 w D W) W := by
  have hkX : ∀ k, k < w.heap.size → k ≠ bn → (getV N c).ownBlock ≠ some k → W.heap[k]? = w.heap[k]? := fun k a1 a2 a3 => hk.block k ⟨a1, a2, a3⟩
  refine ⟨(hkX b H.lt H.b_ne.1 (H.ne_own c).1).trans H.hb, hm, H.mw.block (hkX bw H.mw.lt (fun e => H.ne e.symm) (H.ne_own c).2.1), H.ne, ?_, ?_, ?_, ?_, ?_, H.ram, ?_, ?_, ?_, ⟨.inl H.din.1, .inl H.din.2.1, .inl H.din.2.2⟩, ?_, fun d u g hd hg => .inl (H.dm d u g hd hg), ?_, ?_⟩
  · intro d u hd
    by_cases e : d = c
    · subst e
      rw [mpPut_same] at hd
      cases hd
      rw [setF_same]
      exact ⟨hr, hl⟩
    · rw [mpPut_other _ _ e] at hd
      rw [setF_other _ _ e]
      exact ⟨(H.rn d u hd).1.block fun g hg => hkX g (H.own_mn hd hg).2.2 (H.own_mn hd hg).1 (H.own_ap hd (Ne.symm e) hg), (H.rn d u hd).2⟩
  · intro d hd
    by_cases e : d = c
    · subst e
      rw [mpPut_same] at hd
      cases hd
    · rw [mpPut_other _ _ e] at hd
      rw [setF_other _ _ e]
      exact H.rz d hd
  · intro d u hd
    exact (H.mr d u hd).block fun g hg => hkX g (H.own_mw hd hg).2.2 (H.own_mw hd hg).1 (H.own_ap2 hd hg)
  · intro d hd
    have e : d ≠ c := fun e => by rw [e] at hd; rw [hd] at hM; cases hM
    rw [setF_other _ _ e]
    exact H.mz d hd
  · intro d u hd
    by_cases e : d = c
    · rw [e]; exact ⟨h1, h2⟩
    · rw [mpPut_other _ _ e] at hd
      exact H.ran d u hd
  · intro d
    by_cases e : d = c
    · rw [e, setF_same]; exact hs
    · rw [setF_other _ _ e]; exact H.srt d
  · intro d d' u u' g hd hd' hne hg
    by_cases e : d = c
    · subst e
      rw [mpPut_same] at hd
      cases hd
      rw [mpPut_other _ _ (Ne.symm hne)] at hd'
      intro hg'
      rcases hv g hg with h3 | h3
      · exact H.own_ap hd' hne hg' h3
      · exact absurd (H.own_mn hd' hg').2.2 (by omega)
    · rw [mpPut_other _ _ e] at hd
      by_cases e' : d' = c
      · subst e'
        rw [mpPut_same] at hd'
        cases hd'
        intro hg'
        rcases hv g hg' with h3 | h3
        · exact H.own_ap hd (Ne.symm hne) hg h3
        · exact absurd (H.own_mn hd hg).2.2 (by omega)
      · rw [mpPut_other _ _ e'] at hd'
        exact H.ap d d' u u' g hd hd' hne hg
  · intro d d' u u' g hd hd' hg
    by_cases e : d = c
    · subst e
      rw [mpPut_same] at hd
      cases hd
      intro hg'
      rcases hv g hg with h3 | h3
      · exact H.own_ap2 hd' hg' h3
      · exact absurd (H.own_mw hd' hg').2.2 (by omega)
    · rw [mpPut_other _ _ e] at hd
      exact H.ap2 d d' u u' g hd hd' hg
  · intro d u g hd hg
    by_cases e : d = c
    · subst e
      rw [mpPut_same] at hd
      cases hd
      rcases hv g hg with h3 | h3
      · refine .inl ?_
        unfold getV at h3
        cases hN : N d with
        | none => rw [hN] at h3; cases h3
        | some v0 => rw [hN] at h3; exact H.dn d v0 g hN h3
      · exact .inr ⟨h3, (hr.lt hg).2⟩
    · rw [mpPut_other _ _ e] at hd
      exact .inl (H.dn d u g hd hg)
  · rintro k (h3 | h3)
    · exact H.dB k h3
    · exact Nat.le_trans H.hB h3.1
  · rintro k (h3 | h3)
    · exact Nat.lt_of_lt_of_le (H.dl k h3) hk.size
    · exact h3.2

/-- One chunk has no owners any more. -/
theorem Bk.empty (H : Bk B b bn bw N M f h D w) {c : Int} (hk : KeptIn (fun k => k < w.heap.size ∧ k ≠ bn ∧ (getV N c).ownBlock ≠ some k) w W) (hm : MpAt (fun v : Value => v) bn 1024 (mpDel N c) W) (hM : (M c).isSome = true) :
    Bk B b bn bw (mpDel N c) M (setF f c []) h (New13 w D W) W := by
  have hkX : ∀ k, k < w.heap.size → k ≠ bn → (getV N c).ownBlock ≠ some k → W.heap[k]? = w.heap[k]? := fun k a1 a2 a3 => hk.block k ⟨a1, a2, a3⟩
  have low : ∀ d u, mpDel N c d = some u → N d = some u ∧ d ≠ c := fun d u hd => by
    by_cases e : d = c
    · rw [e, mpDel_same] at hd; cases hd
    · rw [mpDel_other _ e] at hd; exact ⟨hd, e⟩
  refine ⟨(hkX b H.lt H.b_ne.1 (H.ne_own c).1).trans H.hb, hm, H.mw.block (hkX bw H.mw.lt (fun e => H.ne e.symm) (H.ne_own c).2.1), H.ne, ?_, ?_, ?_, ?_, fun d u hd => H.ran d u (low d u hd).1, H.ram, ?_, fun d d' u u' g hd hd' => H.ap d d' u u' g (low d u hd).1 (low d' u' hd').1, fun d d' u u' g hd => H.ap2 d d' u u' g (low d u hd).1, ⟨.inl H.din.1, .inl H.din.2.1, .inl H.din.2.2⟩, fun d u g hd hg => .inl (H.dn d u g (low d u hd).1 hg), fun d u g hd hg => .inl (H.dm d u g hd hg), ?_, ?_⟩
  · intro d u hd
    obtain ⟨hd, e⟩ := low d u hd
    rw [setF_other _ _ e]
    exact ⟨(H.rn d u hd).1.block fun g hg => hkX g (H.own_mn hd hg).2.2 (H.own_mn hd hg).1 (H.own_ap hd (Ne.symm e) hg), (H.rn d u hd).2⟩
  · intro d hd
    by_cases e : d = c
    · rw [e, setF_same]
    · rw [mpDel_other _ e] at hd
      rw [setF_other _ _ e]
      exact H.rz d hd
  · intro d u hd
    exact (H.mr d u hd).block fun g hg => hkX g (H.own_mw hd hg).2.2 (H.own_mw hd hg).1 (H.own_ap2 hd hg)
  · intro d hd
    have e : d ≠ c := fun e => by rw [e] at hd; rw [hd] at hM; cases hM
    rw [setF_other _ _ e]
    exact H.mz d hd
  · intro d
    by_cases e : d = c
    · rw [e, setF_same]; exact List.Pairwise.nil
    · rw [setF_other _ _ e]; exact H.srt d
  · rintro k (h3 | h3)
    · exact H.dB k h3
    · exact Nat.le_trans H.hB h3.1
  · rintro k (h3 | h3)
    · exact Nat.lt_of_lt_of_le (H.dl k h3) hk.size
    · exact h3.2

/-- Whose a chunk was is kept now. -/
theorem Bk.note (H : Bk B b bn bw N M f h D w) {c : Int} {v : Value} (hk : KeptIn (fun k => k < w.heap.size ∧ k ≠ bw) w W) (hm : MpAt (fun v : Value => v) bw 1024 (mpPut M c v) W)
    (hr : RowO W B v (f c)) (hv : ∀ g, v.ownBlock = some g → w.heap.size ≤ g) (hM : M c = none) (h1 : 1 ≤ c) (h2 : c ≤ 1023) :
    Bk B b bn bw N (mpPut M c v) f h (New13 w D W) W := by
  have hkX : ∀ k, k < w.heap.size → k ≠ bw → W.heap[k]? = w.heap[k]? := fun k a1 a2 => hk.block k ⟨a1, a2⟩
  refine ⟨(hkX b H.lt H.b_ne.2).trans H.hb, H.mn.block (hkX bn H.mn.lt H.ne), hm, H.ne, ?_, H.rz, ?_, ?_, H.ran, ?_, H.srt, H.ap, ?_, ⟨.inl H.din.1, .inl H.din.2.1, .inl H.din.2.2⟩, fun d u g hd hg => .inl (H.dn d u g hd hg), ?_, ?_, ?_⟩
  · intro d u hd
    exact ⟨(H.rn d u hd).1.block fun g hg => hkX g (H.own_mn hd hg).2.2 (H.own_mn hd hg).2.1, (H.rn d u hd).2⟩
  · intro d u hd
    by_cases e : d = c
    · subst e
      rw [mpPut_same] at hd
      cases hd
      rw [H.mz d hM]
      exact hr
    · rw [mpPut_other _ _ e] at hd
      exact (H.mr d u hd).block fun g hg => hkX g (H.own_mw hd hg).2.2 (H.own_mw hd hg).2.1
  · intro d hd
    by_cases e : d = c
    · subst e
      rw [mpPut_same] at hd
      cases hd
    · rw [mpPut_other _ _ e] at hd
      exact H.mz d hd
  · intro d u hd
    by_cases e : d = c
    · rw [e]; exact ⟨h1, h2⟩
    · rw [mpPut_other _ _ e] at hd
      exact H.ram d u hd
  · intro d d' u u' g hd hd' hg
    by_cases e : d' = c
    · subst e
      rw [mpPut_same] at hd'
      cases hd'
      intro hg'
      have := hv g hg'
      exact absurd (H.own_mn hd hg).2.2 (by omega)
    · rw [mpPut_other _ _ e] at hd'
      exact H.ap2 d d' u u' g hd hd' hg
  · intro d u g hd hg
    by_cases e : d = c
    · subst e
      rw [mpPut_same] at hd
      cases hd
      exact .inr ⟨hv g hg, (hr.lt hg).2⟩
    · rw [mpPut_other _ _ e] at hd
      exact .inl (H.dm d u g hd hg)
  · rintro k (h3 | h3)
    · exact H.dB k h3
    · exact Nat.le_trans H.hB h3.1
  · rintro k (h3 | h3)
    · exact Nat.lt_of_lt_of_le (H.dl k h3) hk.size
    · exact h3.2

/-- All is committed. -/
theorem Bk.commit (H : Bk B b bn bw N M f h D w) (hk : KeptIn (· ≠ bw) w W) (hm : MpAt (fun v : Value => v) bw 1024 (fun _ => none) W) : Bk B b bn bw N (fun _ => none) f f D W := by
  have hkX : ∀ k, k ≠ bw → W.heap[k]? = w.heap[k]? := fun k a => hk.block k a
  refine ⟨(hkX b H.b_ne.2).trans H.hb, H.mn.block (hkX bn H.ne), hm, H.ne, ?_, H.rz, fun d u hd => (by cases hd), fun d _ => rfl, H.ran, fun d u hd => (by cases hd), H.srt, H.ap, fun d d' u u' g hd hd' => (by cases hd'), H.din, H.dn, fun d u g hd => (by cases hd), H.dB, fun k hk' => Nat.lt_of_lt_of_le (H.dl k hk') hk.size⟩
  intro d u hd
  exact ⟨(H.rn d u hd).1.block fun g hg => hkX g (H.own_mn hd hg).2.1, (H.rn d u hd).2⟩
end

end Go.Proofs.Ytononiedecpllaa
