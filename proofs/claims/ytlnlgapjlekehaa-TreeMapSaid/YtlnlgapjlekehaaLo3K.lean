import Derived.Test.YtlnlgapjlekehaaLo2K
import Derived.Test.YtlnlgapjlekehaaSe8K
/- TreeMap of layer 8: the reference's look at a tree of two levels. -/
set_option linter.unusedVariables false
namespace Go.Proofs.Ytlnlgapjlekehaa
open Go.RowKit

/-- What stands in the loop over a node's kids. -/
def LkK (w : World) (T B0 y ab ao np c2 : Nat) (N : List Nd) (L : Int) (ps qs : Pairs) (g0 : List Nat) (ms1 : List Int) (qs0 : Pairs) (j : Nat) (W : World) : Prop :=
  ∃ pv qv qa qb ga gb, j ≤ np ∧ qs = qa ++ qb ∧ g0 = ga ++ gb ∧ Kids (Snd N 0) (ps.take j) qa ga ∧ Kids (Snd N 0) (ps.drop j) qb gb ∧ LkF w T B0 y ab ao np c2 L ps (fun _ => False) pv qv (ms1 ++ ofP ga) (qs0 ++ qa) W

theorem LkK.kid {w W : World} {T B0 y ab ao np c2 j : Nat} {N : List Nd} {root : Bool} {lv : Int} {lo hi p : Nat} {L : Int} {ps qs : Pairs} {g0 : List Nat} {ms1 : List Int} {qs0 : Pairs}
    (h : LkK w T B0 y ab ao np c2 N L ps qs g0 ms1 qs0 j W) (hS : SndL N root lv lo hi 1 p ps qs g0) (hN : N.length ≤ 511) (hn : ps.length = np) (hj : j < np) (hnd : (ms1 ++ ofP g0).Nodup) (hml : ms1.length + g0.length ≤ 511) (hq0 : qs0.length + qs.length ≤ 8000) :
    ∃ pv qv ms2 qs2 ps' q2 g', LkF w T B0 y ab ao np c2 L ps (fun _ => False) pv qv ms2 qs2 W ∧ SndL N false 0 (keyAt ps j) (highOf ps j hi) 0 (valAt ps j) ps' q2 g' ∧ ps'.length ≤ 15 ∧ (ms2 ++ ofP (valAt ps j :: g')).Nodup ∧ ms2.length + (1 + g'.length) ≤ 511 ∧ qs2.length ≤ 8000 ∧
      ∀ pv' qv' W', LkF w T B0 y ab ao np c2 L ps (fun _ => False) pv' qv' (ms2 ++ ofP (valAt ps j :: g')) (qs2 ++ q2) W' → LkK w T B0 y ab ao np c2 N L ps qs g0 ms1 qs0 (j + 1) W' := by
  obtain ⟨pv, qv, qa, qb, ga, gb, h1, e, eg, ka, kb, hF⟩ := h
  have hjp : j < ps.length := by omega
  have ed : ps.drop j = (keyAt ps j, valAt ps j) :: ps.drop (j + 1) := by
    rw [List.drop_eq_getElem_cons hjp, keyAt_get hjp, valAt_get hjp]
  rw [ed] at kb
  obtain ⟨q2, q3, g2, g3, e2, eg2, s1, s2, s3, k3⟩ := kb
  obtain ⟨ps', g', eg', hc, hc15⟩ := hS.kidAt (by decide) hN j hjp (q1 := qa) (q2 := q2) (q3 := q3) (by rw [e, e2, List.append_assoc]) s1 s2 s3 k3
  have hlen : g0.length = ga.length + (1 + g'.length + g3.length) := by rw [eg, eg2, eg', List.length_append, List.length_append, List.length_cons]; omega
  refine ⟨pv, qv, ms1 ++ ofP ga, qs0 ++ qa, ps', q2, g', hF, hc, hc15, ?_, ?_, ?_, fun pv' qv' W' hF' => ⟨pv', qv', qa ++ q2, q3, ga ++ g2, g3, by omega, by rw [e, e2, List.append_assoc], by rw [eg, eg2, List.append_assoc], ?_, k3, ?_⟩⟩
  · rw [eg, eg2, eg', ofP_append, ofP_append, ← List.append_assoc, ← List.append_assoc] at hnd
    exact (List.nodup_append.1 hnd).1
  · rw [List.length_append, List.length_map]; omega
  · rw [e, List.length_append] at hq0
    rw [List.length_append]; omega
  · have : ps.take (j + 1) = ps.take j ++ [(keyAt ps j, valAt ps j)] := by
      rw [List.take_add_one, List.getElem?_eq_getElem hjp, keyAt_get hjp, valAt_get hjp]; rfl
    rw [this]
    exact ka.append ⟨q2, [], g2, [], by simp, by simp, s1, s2, s3, rfl, rfl⟩
  · rw [ofP_append, eg', ← List.append_assoc, ← List.append_assoc]
    exact hF'

theorem LkK.fin {w W : World} {T B0 y ab ao np c2 j p : Nat} {N : List Nd} {L : Int} {ps qs : Pairs} {g0 : List Nat} {ms : List Int} {qs0 : Pairs}
    (h : LkK w T B0 y ab ao np c2 N L ps qs g0 (ms ++ [(p : Int)]) qs0 j W) (hn : ps.length = np) (hj : ¬ j < np) : LkP w T B0 (fun _ => False) (ms ++ ofP (p :: g0)) (qs0 ++ qs) (.returned (.tuple #[])) W := by
  obtain ⟨pv, qv, qa, qb, ga, gb, h1, e, eg, ka, kb, hF⟩ := h
  have : ps.drop j = [] := List.drop_eq_nil_iff.2 (by omega)
  rw [this] at kb
  obtain ⟨rfl, rfl⟩ := kb
  rw [List.append_nil] at e eg
  subst e eg
  have e2 : ms ++ [(p : Int)] ++ ofP g0 = ms ++ ofP (p :: g0) := by rw [List.append_assoc]; rfl
  rw [e2] at hF
  exact ⟨pv, qv, rfl, hF.lk, hF.kept, fun k h => h.elim⟩

theorem lk3_idx {j n j3 : Nat} (h : j < n) (hn : n ≤ 15) (e : j + 1 = j3) : (0 : Int) ≤ (j : Int) ∧ (j : Int) < (n : Int) ∧ wrap64 ((j : Int) + 1) = (j3 : Int) ∧ IntKind.i64.wrap ((j : Int) + 1) = (j3 : Int) ∧ (0 : Int) ≤ (j3 : Int) := by
  refine ⟨by omega, by omega, by unfold wrap64; omega, by rw [IntKind.wrap_i64]; omega, by omega⟩
theorem highOf_next {ps : Pairs} {j j3 hi : Nat} (hr : rises ps = true) (h : j3 < ps.length) (e : j + 1 = j3) : highOf ps j hi + 1 = keyAt ps j3 := by
  subst e
  unfold highOf
  rw [if_pos h]
  have := rises_lt hr (show j < j + 1 by omega) h
  omega
theorem vv_int {v : Nat} (h : 1 ≤ v ∧ v ≤ 511) : (0 : Int) ≤ (v : Int) ∧ (v : Int) ≤ 511 := by omega
theorem lk3_wrap {v : Nat} (h0 : (0 : Int) ≤ (v : Int)) (h1 : (v : Int) ≤ 511) : IntKind.i64.wrap (v : Int) = (v : Int) := by rw [IntKind.wrap_i64]; omega
theorem lk3_zero : IntKind.i64.wrap 0 = 0 := by decide
theorem lk3_lt {j n : Nat} : (j < n → (j : Int) < (n : Int)) ∧ (¬ j < n → ¬ (j : Int) < (n : Int)) := by omega

set_option maxRecDepth 100000 in
set_option maxHeartbeats 8000000 in
theorem r8look1 {N : List Nd} (hN : N.length ≤ 511) (s room : Nat) {lo hi p : Nat} {ps qs : Pairs} {g0 : List Nat} {w : World} {D : Nat → Prop} {T B0 : Nat} {pv qv : Value} {ms : List Int} {qs0 : Pairs} {la : Option Addr} {cap : Nat} (hla : w.cell? ⟨s, 0, none⟩ = some (.slice la N.length cap)) (hsh : IsSh w s room N D) (hD : ∀ k, D k → k < T) (h : LkAt w T B0 pv qv ms qs0) (hS : SndL N true (-1) lo hi 1 p ps qs g0)
    (h15 : ps.length ≤ 15) (hhi : hi < 18446744073709551616) (hnd : (ms ++ ofP (p :: g0)).Nodup) (hml : ms.length + (1 + g0.length) ≤ 511) (hq0 : qs0.length + qs.length ≤ 8000) :
    Calls Try.prog 41 #[.pointer (some ⟨T, 0, none⟩), .slice la N.length cap, .int .i64 (p : Int), .int .i64 (-1), .int .u64 (lo : Int), .bool false, .int .u64 0] w (LkP w T B0 (fun _ => False) (ms ++ ofP (p :: g0)) (qs0 ++ qs)) := by
  obtain ⟨ix, hix, hqi, hni⟩ := nodeOf_at hS.node
  obtain ⟨a, pc, rfl⟩ := row_sliceI h.prow
  obtain ⟨m, hm⟩ : ∃ m, ms.length = m := ⟨_, rfl⟩
  rw [hm] at h hml
  obtain ⟨p1, p2, p3, p4, p5, p6⟩ := lk_in (p := p) (n := N.length) (by omega) (by omega) hN
  have c0 := h.c0
  have c2 := h.c2
  have hp : (p : Int) ∉ ms := by
    intro hin
    have := (List.nodup_append.1 hnd).2.2 _ hin _ (List.mem_map.2 ⟨p, List.mem_cons_self, rfl⟩)
    exact this rfl
  have hrow := h.prow
  have hI : IntsL w a ms := by
    have h1 := hrow
    rw [← hm] at h1
    exact rowIntsL h1 (by unfold maxLen; omega)
  obtain ⟨nn, hnn⟩ : ∃ nn, N.length = nn := ⟨_, rfl⟩
  have hmI : (m : Int) ≤ 511 := by omega
  have HI := Lib.hid (And.intro hI (And.intro hp hm))
  have HQ0L := Lib.hid (And.intro hq0 h15)
  have HH := Lib.hid (And.intro hsh (And.intro hD (And.intro hS (And.intro hnd (And.intro hml (And.intro (True.intro) (And.intro hhi (And.intro (True.intro) h)))))))) 
  have HNN := Lib.hid hnn
  rw [hnn] at hla p3 p4 p6 ⊢
  have HL := Lib.hid hla
  clear hI hp hm hsh hD hS hnd hml hhi h hla hrow hnn
  go_enter Try.func41, Try.ntmps41
  go_wp2_with fail
  have HW0 : Hid (KeptIn (· < w.heap.size) w w) := Lib.hid (KeptIn.refl _ w)
  go_loopw [14] (fun i wr => ∃ (j : Nat), w = wr ∧ j ≤ m ∧ i = .int .i64 (j : Int)) (fun i _ => m - (intOf i).toNat)
  case atStart => exact ⟨0, rfl, Nat.zero_le _, rfl⟩
  case round =>
    obtain ⟨j, rfl, hj, rfl⟩ := hrel
    by_cases hlt : j < m
    · have d0 : (0 : Int) ≤ (j : Int) := by omega
      have d1 : (j : Int) < (m : Int) := by omega
      have hjm : j < ms.length := by rw [HI.out.2.2]; exact hlt
      obtain ⟨gb, off, rfl, hb, hc⟩ := HI.out.1.cells (by omega)
      have y0 := hc j hjm
      have hxp : ms.getD j 0 ≠ (p : Int) := fun e => HI.out.2.1 (by rw [← e, List.getD_eq_getElem?_getD, List.getElem?_eq_getElem hjm, Option.getD_some]; exact List.getElem_mem hjm)
      obtain ⟨x, hx⟩ : ∃ x, ms.getD j 0 = x := ⟨_, rfl⟩
      rw [hx] at y0 hxp
      have x1 : (x == (p : Int)) = false := by rw [beq_eq_false_iff_ne]; exact hxp
      clear hc hjm hx hb
      go_wp2_with fail
      go_roundw
      case rel => exact ⟨j + 1, trivial, by omega, by go_num⟩
      case measure => simp only [intOf]; omega
    · have d1 : ¬ (j : Int) < (m : Int) := by omega
      have hrow := HH.out.2.2.2.2.2.2.2.2.prow
      have hBw := HH.out.2.2.2.2.2.2.2.2.le
      obtain ⟨ip, hip, hp0, hp1, hp2⟩ := info_parts infoInt8
      go_wp2_with (at_builtin; refine wpList_append_own _ rfl _ _ 51 rfl B0 3 ip _ 1 8 Try.underlying51 hip hp0 hp1 hp2 rfl (by decide) _ _ _ rfl (hrow.alloc _) ⟨w.heap.size, 0, none⟩ 1 1 [.int .i64 (p : Int)] rfl rfl (World.news_of_block (cs := #[.int .i64 (p : Int)]) (t := 3) (fr := (0, 0)) (heap_alloc_new w _)) (by simp [Value.oneCell']) (by unfold maxLen; have := HI.out.2.2; omega) (by have := HI.out.2.2; omega) (by rw [World.size_alloc]; exact Nat.le_succ_of_le hBw) ?_)
      intro v' w8 hown hgrow _
      rw [HI.out.2.2] at hown
      obtain ⟨av, cv, rfl⟩ := row_sliceI hown
      obtain ⟨⟨z0, z1⟩, hat, hkp⟩ := lk_page HH.out.2.2.2.2.2.2.2.2 HI.out.2.2 hgrow hown
      obtain ⟨b, rfl, hnode⟩ := lk_node HH.out.2.2.2.2.2.2.2.2 HH.out.1 HH.out.2.1 (by rw [HNN.out]; exact HL.out) hix hni
      obtain ⟨a2, c2', n1, n2, n3, n4⟩ := hnode _ hkp
      obtain ⟨i1, i2, i3⟩ := lk_idx hqi (by omega)
      have i4 : (0 : Int) ≤ (ix : Int) := by omega
      have i5 : (ix : Int) < (nn : Int) := by have := HNN.out; omega
      obtain ⟨hgood, hpos⟩ := fit_good' HH.out.2.2.1.fit
      obtain ⟨ab, ao, rfl, _, hcells⟩ := n3.cells hpos
      obtain ⟨W2, hW2⟩ : ∃ W2, w8.setCell ⟨T, 0, none⟩ (.slice av (m + 1) cv) = W2 := ⟨_, rfl⟩
      obtain ⟨np, hnp⟩ : ∃ np, ps.length = np := ⟨_, rfl⟩
      have HGD : Hid (∀ V, KeptIn (· < W2.heap.size) W2 V → Calls Try.prog 56 #[leafV 1 (some ⟨ab, ao, none⟩) np c2'] V fun e w' => e = .returned (.bool true) ∧ KeptIn (· < V.heap.size) V w') := Lib.hid fun V hk => by
        have := r5Good 1 (some ⟨ab, ao, none⟩) c2' ps V (by rw [← hW2] at hk; exact n3.old hk)
        rw [hnp] at this
        rw [show goodN 1 ps = true from hgood] at this
        exact this
      obtain ⟨y, hy⟩ : ∃ y, w8.heap.size = y := ⟨_, rfl⟩
      have hy2 : W2.heap.size = y := by rw [← hW2, ← hy]; simp
      rw [hnp] at n2
      rw [hW2] at hat hkp n1 n2 n3
      have HV : Hid (∀ V, KeptIn (· < (W2.alloc (.cells #[.int .i64 1, .slice (some ⟨ab, ao, none⟩) np c2'] 82)).heap.size) (W2.alloc (.cells #[.int .i64 1, .slice (some ⟨ab, ao, none⟩) np c2'] 82)) V → BoxL y 1 (some ⟨ab, ao, none⟩) np c2' V ∧ IsPs V (some ⟨ab, ao, none⟩) ps ∧ KeptIn (· < W2.heap.size) W2 V) := Lib.hid fun V hk => by
        have hka : KeptIn (· < W2.heap.size) W2 (W2.alloc (.cells #[.int .i64 1, .slice (some ⟨ab, ao, none⟩) np c2'] 82)) := (KeptIn.refl _ W2).alloc (fun _ h => h) _
        have hkv := hka.go hk
        refine ⟨?_, n3.old hkv, hkv⟩
        have hb := BoxL.new W2 1 (some ⟨ab, ao, none⟩) np c2'
        rw [hy2] at hb
        exact hb.kept hk hb.lt
      have HA := Lib.hid (And.intro hat (And.intro hkp (And.intro n3 (And.intro n4 (And.intro hgood hpos)))))
      have HNP := Lib.hid hnp
      clear hat hkp n3 n4 hnode hown hgrow hrow hBw hip hp0 hp1 hp2 hgood hpos hcells hnp
      unfold leafV at HGD
      have HK0 : Hid (∀ V, IsPs V (some ⟨ab, ao, none⟩) ps → ∀ i, i < np → V.cell? ⟨ab, ao + i * 2, none⟩ = some (.int .u64 (keyAt ps i : Int)) ∧ V.cell? ⟨ab, ao + i * 2 + 1, none⟩ = some (.int .u64 (valAt ps i : Int))) := Lib.hid fun V hV => by
        obtain ⟨b9, o9, e9, _, h9⟩ := hV.cells HA.out.2.2.2.2.2
        cases e9
        rw [HNP.out] at h9
        exact h9
      have hnp0 : 0 < np := by rw [← HNP.out]; exact HA.out.2.2.2.2.2
      have hnp1 : (0 : Int) < (np : Int) := by omega
      have hnpI : (np : Int) ≤ 15 := by have := HNP.out; omega
      have hnp2 : ((np : Int) == 0) = false := by rw [beq_eq_false_iff_ne]; omega
      have hnp3 : ¬ (np : Int) = 0 := by omega
      have hnp4 : decide ((np : Int) = 0) = false := decide_eq_false hnp3
      have hnp5 : 1 < np := by
        have h1 := HH.out.2.2.1.fit
        have h2 : (1 : Nat) = 0 ∨ 1 < ps.length := h1.2.2
        have := HNP.out
        omega
      have hnp6 : ¬ (np : Int) < 2 := by omega
      have hnp7 : decide ((np : Int) < 2) = false := decide_eq_false hnp6
      go_wp2_with (first
        | (go_at_call 56; refine (HGD.out _ ((KeptIn.refl _ _).alloc (fun _ h => h) _)).mono ?_; rintro e V ⟨rfl, hk⟩; have HVV := Lib.hid (HV.out V hk); have y0 := HVV.out.1.c0; have y1 := HVV.out.1.c1; clear hk))
      have HF0 : Hid (LkK w T B0 y ab ao np c2' N 1 ps qs g0 (ms ++ [(p : Int)]) qs0 0 V) := Lib.hid ⟨_, _, [], qs, [], g0, Nat.zero_le _, rfl, rfl, ⟨rfl, rfl⟩, HH.out.2.2.1.body, ⟨by simpa [ofP] using HA.out.1.old HVV.out.2.2, HVV.out.1, HVV.out.2.1, HA.out.2.2.2.1 _ rfl, lky_trans HA.out.2.1 (lky_old HVV.out.2.2), fun k h => h.elim, fun k h => h.elim⟩⟩
      have HCK : Hid (∀ V, KeptIn (LkY w T B0) w V → IsSh V s room N D ∧ V.cell? ⟨s, 0, none⟩ = some (.slice (some ⟨b, 0, none⟩) nn cap)) := Lib.hid fun V hk => by
        have h9 := HH.out.2.2.2.2.2.2.2.2
        have hY : ∀ k, D k → LkY w T B0 k := fun k hD => ⟨HH.out.1.lt k hD, Nat.ne_of_lt (HH.out.2.1 k hD), .inl (by have := HH.out.2.1 k hD; have := h9.lt; omega)⟩
        exact ⟨lk_sh h9 HH.out.1 HH.out.2.1 hk, (World.cell?_of_block (a := ⟨s, 0, none⟩) (hk.block s (hY s HH.out.1.ds))).trans HL.out⟩
      have hgv := good_vals HA.out.2.2.2.2.1 (by decide)
      have HGV := Lib.hid (And.intro hgv (good_rises HA.out.2.2.2.2.1))
      clear y0 y1 hgv HVV
      go_loopw [16, 17] (fun i _ wr => ∃ (j : Nat) (X : World), X = wr ∧ j ≤ np ∧ i = .int .i64 (j : Int) ∧ Hid (LkK w T B0 y ab ao np c2' N 1 ps qs g0 (ms ++ [(p : Int)]) qs0 j X)) (fun i _ _ => np - (intOf i).toNat)
      case atStart => exact ⟨0, _, rfl, Nat.zero_le _, rfl, HF0⟩
      case round =>
        obtain ⟨j2, X, rfl, hj2, rfl, HJ⟩ := hrel
        clear HF0
        by_cases hlt2 : j2 < np
        · obtain ⟨pv3, qv3, ms2, qs2, ps', q2, g', hF, hkid, hk15, hnd2, hml2, hq2, hnext⟩ := HJ.out.kid HH.out.2.2.1 hN HNP.out hlt2 (by
            have := HH.out.2.2.2.1
            rw [List.append_assoc]
            exact this) (by have := HH.out.2.2.2.2.1; have := HI.out.2.2; rw [List.length_append, List.length_singleton]; omega) HQ0L.out.1
          have y0 := hF.leaf.c0
          have y1 := hF.leaf.c1
          obtain ⟨x0, x1⟩ := HK0.out X hF.isps j2 hlt2
          obtain ⟨j3, hj3⟩ : ∃ j3, j2 + 1 = j3 := ⟨_, rfl⟩
          obtain ⟨d3, d4, d5, d6, d7⟩ := lk3_idx hlt2 (by rw [← HNP.out]; exact HQ0L.out.2) hj3
          have hvv9 := (HGV.out.1 j2 (by rw [HNP.out]; exact hlt2))
          have HFX := Lib.hid hF
          obtain ⟨xb, hxb⟩ : ∃ xb, X.heap.size = xb := ⟨_, rfl⟩
          have hhi2 := HH.out.2.2.2.2.2.2.1
          by_cases hl3 : j3 < np
          · have d8 := lk3_lt.1 hl3
            obtain ⟨k0, -⟩ := HK0.out X hF.isps j3 hl3
            have hHi : highOf ps j2 hi + 1 = keyAt ps j3 := highOf_next HGV.out.2 (by rw [HNP.out]; exact hl3) hj3
            obtain ⟨kk, hkk⟩ : ∃ kk, keyAt ps j2 = kk := ⟨_, rfl⟩
            obtain ⟨vv, hvv⟩ : ∃ vv, valAt ps j2 = vv := ⟨_, rfl⟩
            obtain ⟨kn, hkn⟩ : ∃ kn, keyAt ps j3 = kn := ⟨_, rfl⟩
            obtain ⟨X2, hX2⟩ : ∃ X2, X.alloc (.cells #[.int .u64 (kk : Int), .int .u64 (vv : Int)] 38) = X2 := ⟨_, rfl⟩
            have hk2 : KeptIn (· < X.heap.size) X X2 := by rw [← hX2]; exact (KeptIn.refl _ X).alloc (fun _ h => h) _
            have hbx : X2.heap[xb]? = some (.cells #[.int .u64 (kk : Int), .int .u64 (vv : Int)] 38 (0, 0)) := by rw [← hX2, ← hxb]; exact heap_alloc_new X _
            have hpx : PrX X2.drew T qv3 (fun k => k = xb) := fun k e => by
              subst e
              refine ⟨(Array.getElem?_eq_some_iff.1 hbx).1, ?_, ⟨_, _, hbx⟩, fun e2 => ?_⟩
              · have h1 := hF.lk.lt
                have h2 := hF.lk.le
                omega
              · have := (rowS_lt hF.lk.qrow k e2).2
                omega
            have HC2 : Hid (Calls Try.prog 41 #[.pointer (some ⟨T, 0, none⟩), .slice (some ⟨b, 0, none⟩) nn cap, .int .i64 (IntKind.i64.wrap (vv : Int)), .int .i64 (IntKind.i64.wrap 0), .int .u64 (kk : Int), .bool true, .int .u64 (kn : Int)] X2.drew (LkP X2.drew T B0 (fun k => k = xb) (ms2 ++ ofP (vv :: g')) (qs2 ++ q2))) := Lib.hid (by
              have hV := HFX.out.old (fun k h => h.elim) hk2.drew
              obtain ⟨c1, c2⟩ := HCK.out X2.drew hV.kept
              have hla9 : X2.drew.cell? ⟨s, 0, none⟩ = some (.slice (some ⟨b, 0, none⟩) N.length cap) := by rw [HNN.out]; exact c2
              have := r8look0 (root := false) (has := true) (hig := keyAt ps j3) (fun k => k = xb) hN s room hla9 c1 HH.out.2.1 hV.lk hkid rfl hk15 (highOf_lt ps j2 hi hV.isps.fits hhi2) (fun _ => ⟨rfl, hHi⟩) hnd2 hml2 hq2 hpx
              rw [HNN.out, hkk, hvv, hkn] at this
              obtain ⟨v0, v1⟩ := vv_int hvv9
              rw [hvv] at v0 v1
              rw [lk3_wrap v0 v1, lk3_zero]
              exact this)
            have HNX : Hid (∀ W' pv' qv', LkAt W' T B0 pv' qv' (ms2 ++ ofP (vv :: g')) (qs2 ++ q2) → KeptIn (LkY X2.drew T B0) X2.drew W' → LkK w T B0 y ab ao np c2' N 1 ps qs g0 (ms ++ [(p : Int)]) qs0 j3 W') := Lib.hid fun W' pv' qv' h2 h3 => by
              rw [← hj3]
              rw [← hvv] at h2
              exact hnext pv' qv' W' ((HFX.out.old (fun k h => h.elim) hk2.drew).go h3 h2 (fun k h => h.elim) (fun k h => h.elim))
            have HSV : Hid (∀ W' pv' qv', LkAt W' T B0 pv' qv' (ms2 ++ ofP (vv :: g')) (qs2 ++ q2) → KeptIn (LkY X2.drew T B0) X2.drew W' → (∀ k, k = xb → W'.heap[k]? = X2.drew.heap[k]?) → W'.cell? ⟨xb, 0, none⟩ = some (.int .u64 (kk : Int)) ∧ W'.cell? ⟨xb, 1, none⟩ = some (.int .u64 (vv : Int)) ∧ W'.cell? ⟨y, 0, none⟩ = some (.int .i64 1) ∧ W'.cell? ⟨y, 1, none⟩ = some (.slice (some ⟨ab, ao, none⟩) np c2') ∧ W'.cell? ⟨ab, ao + j3 * 2, none⟩ = some (.int .u64 (kn : Int))) := Lib.hid fun W' pv' qv' h2 h3 h4 => by
              have hF4 := (HFX.out.old (fun k h => h.elim) hk2.drew).go h3 h2 (fun k h => h.elim) (fun k h => h.elim)
              have hb4 : W'.heap[xb]? = some (.cells #[.int .u64 (kk : Int), .int .u64 (vv : Int)] 38 (0, 0)) := (h4 xb rfl).trans hbx
              exact ⟨(cell_of_row _ _ 0 _ _ _ hb4).trans rfl, (cell_of_row _ _ 1 _ _ _ hb4).trans rfl, hF4.leaf.c0, hF4.leaf.c1, by rw [← hkn]; exact (HK0.out W' hF4.isps j3 hl3).1⟩
            obtain ⟨v0, v1⟩ := vv_int hvv9
            rw [hvv] at v0 v1 x1
            rw [hkk] at x0
            have w0 : X2.cell? ⟨xb, 0, none⟩ = some (.int .u64 (kk : Int)) := (cell_of_row _ _ 0 _ _ _ hbx).trans rfl
            have w1 : X2.cell? ⟨xb, 1, none⟩ = some (.int .u64 (vv : Int)) := (cell_of_row _ _ 1 _ _ _ hbx).trans rfl
            have hF2 := HFX.out.old (fun k h => h.elim) hk2
            have t0 := hF2.leaf.c0
            have t1 := hF2.leaf.c1
            have k1 := (HK0.out X2 hF2.isps j3 hl3).1
            rw [hkn] at k0 k1
            have HLT := Lib.hid (And.intro hlt2 hj3)
            clear hkid hk15 hnd2 hml2 hnext hF HJ hHi hq2 hhi2 hkk hvv hkn hvv9 hk2 hbx hpx hF2 hlt2 hl3 hj3
            go_wp2_with fail
            go_region_held3 (fun w' => w'.cell? ⟨xb, 0, none⟩ = some (.int .u64 (kk : Int)) ∧ w'.cell? ⟨xb, 1, none⟩ = some (.int .u64 (vv : Int)) ∧ w'.cell? ⟨y, 0, none⟩ = some (.int .i64 1) ∧ w'.cell? ⟨y, 1, none⟩ = some (.slice (some ⟨ab, ao, none⟩) np c2') ∧ w'.cell? ⟨ab, ao + j3 * 2, none⟩ = some (.int .u64 (kn : Int)))
              (first | exact ⟨w0, w1, t0, t1, k1⟩ | exact HSV.out _ _ _ hl4 hk4 hp4)
              (first | (go_at_call 41; refine HC2.out.mono ?_; rintro e V4 ⟨pv4, qv4, rfl, hl4, hk4, hp4⟩))
            have HO := Lib.hid (HNX.out _ _ _ hl4 hk4)
            clear hl4 hk4 hp4
            clear w0 w1 t0 t1 k0 k1 x0 x1 y0 y1
            go_wp2_with fail
            go_roundw
            case rel => exact ⟨j3, _, rfl, by have := HLT.out; omega, rfl, HO⟩
            case measure => have := HLT.out; simp only [intOf]; omega
          · have d8 := lk3_lt.2 hl3
            have HC : Hid (∀ V, KeptIn (· < X.heap.size) X V → Calls Try.prog 41 #[.pointer (some ⟨T, 0, none⟩), .slice (some ⟨b, 0, none⟩) nn cap, .int .i64 (valAt ps j2 : Int), .int .i64 0, .int .u64 (keyAt ps j2 : Int), .bool false, .int .u64 0] V (LkP V T B0 (fun _ => False) (ms2 ++ ofP (valAt ps j2 :: g')) (qs2 ++ q2))) := Lib.hid fun V hk => by
              have hV := HFX.out.old (fun k h => h.elim) hk
              obtain ⟨c1, c2⟩ := HCK.out V hV.kept
              have hla9 : V.cell? ⟨s, 0, none⟩ = some (.slice (some ⟨b, 0, none⟩) N.length cap) := by rw [HNN.out]; exact c2
              have := r8look0 (root := false) (has := false) (hig := 0) (fun _ => False) hN s room hla9 c1 HH.out.2.1 hV.lk hkid rfl hk15 (highOf_lt ps j2 hi hV.isps.fits hhi2) (fun h => by cases h) hnd2 hml2 hq2 (fun k h => h.elim)
              rw [HNN.out] at this
              exact this
            have HNX : Hid (∀ V W' pv' qv', KeptIn (· < X.heap.size) X V → LkAt W' T B0 pv' qv' (ms2 ++ ofP (valAt ps j2 :: g')) (qs2 ++ q2) → KeptIn (LkY V T B0) V W' → LkK w T B0 y ab ao np c2' N 1 ps qs g0 (ms ++ [(p : Int)]) qs0 j3 W') := Lib.hid fun V W' pv' qv' h1 h2 h3 => by
              rw [← hj3]
              exact hnext pv' qv' W' ((HFX.out.old (fun k h => h.elim) h1).go h3 h2 (fun k h => h.elim) (fun k h => h.elim))
            clear hkid hk15 hnd2 hml2 hnext hF HJ hq2 hhi2
            obtain ⟨kk, hkk⟩ : ∃ kk, keyAt ps j2 = kk := ⟨_, rfl⟩
            obtain ⟨vv, hvv⟩ : ∃ vv, valAt ps j2 = vv := ⟨_, rfl⟩
            rw [hkk] at HC x0
            rw [hvv] at HC HNX x1 hvv9
            obtain ⟨v0, v1⟩ := vv_int hvv9
            clear hkk hvv hvv9
            obtain ⟨X2, hX2⟩ : ∃ X2, X.alloc (.cells #[.int .u64 (kk : Int), .int .u64 (vv : Int)] 38) = X2 := ⟨_, rfl⟩
            have hk2 : KeptIn (· < X.heap.size) X X2 := by rw [← hX2]; exact (KeptIn.refl _ X).alloc (fun _ h => h) _
            have hbx : X2.heap[xb]? = some (.cells #[.int .u64 (kk : Int), .int .u64 (vv : Int)] 38 (0, 0)) := by rw [← hX2, ← hxb]; exact heap_alloc_new X _
            have w0 : X2.cell? ⟨xb, 0, none⟩ = some (.int .u64 (kk : Int)) := (cell_of_row _ _ 0 _ _ _ hbx).trans rfl
            have w1 : X2.cell? ⟨xb, 1, none⟩ = some (.int .u64 (vv : Int)) := (cell_of_row _ _ 1 _ _ _ hbx).trans rfl
            have hF2 := HFX.out.old (fun k h => h.elim) hk2
            have t0 := hF2.leaf.c0
            have t1 := hF2.leaf.c1
            have HKX := Lib.hid hk2
            have HLT := Lib.hid (And.intro hlt2 hj3)
            clear hk2 hbx hF2 hlt2 hl3 hj3
            go_wp2_with (first | (go_at_call 41; refine (HC.out X2 HKX.out).mono ?_; rintro e V4 ⟨pv4, qv4, rfl, hl4, hk4, -⟩; have HO := Lib.hid (HNX.out X2 V4 pv4 qv4 HKX.out hl4 hk4); clear hl4 hk4))
            clear w0 w1 t0 t1 x0 x1 y0 y1
            go_roundw
            case rel => exact ⟨j3, _, rfl, by have := HLT.out; omega, rfl, HO⟩
            case measure => have := HLT.out; simp only [intOf]; omega
        · have d4 := lk3_lt.2 hlt2
          obtain ⟨pv9, qv9, u1, u2, u3, u4, u5, u6, u7, u8, u9, hF9⟩ := HJ.out
          have y0 := hF9.leaf.c0
          have y1 := hF9.leaf.c1
          have HE := Lib.hid (HJ.out.fin HNP.out hlt2)
          clear HJ hF9 u5 u6 u7 u8 u9
          go_wp2_with fail
          go_end0
          exact HE.out

end Go.Proofs.Ytlnlgapjlekehaa
