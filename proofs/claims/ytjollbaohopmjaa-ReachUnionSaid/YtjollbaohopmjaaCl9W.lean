import Derived.Test.YtjollbaohopmjaaCk9W
/- Package reach's checkAll: the walk. -/
set_option linter.unusedVariables false
namespace Go.Proofs.Ytjollbaohopmjaa
open Go.RowKit

theorem zeroEmpty9 (w : World) : (zeroValue 89).run Try.prog w = .ok (unV ()) w := by
  have : (zeroValue 89).run Try.prog w = .ok (.agg #[]) w := by kernel_rfl
  rw [this]
  rfl

theorem IsMm.map2 {W W2 : World} {x y c n : Nat} {N : List Nd} {M : Int → Option (Option Lf9)} {T : Int → Option Unit} (h : IsMm W x c N M) (hT : MpAt unV y n T W) (hyx : y ≠ x) (hk : KeptIn (· ≠ y) W W2) : IsMm W2 x c N M := by
  refine ⟨h.map.kept hk hyx.symm, fun p z hz => ?_⟩
  obtain ⟨i, hi, g, cap, q1, q2, q3, q4⟩ := h.node p z hz
  have hg : g ≠ y := q4.1.ne_map hT
  exact ⟨i, hi, g, cap, q1, q2, psAt q3 hk (fun p e => by cases e; exact hg), ⟨q4.1.kept (hk.block g hg), q4.2⟩⟩

set_option maxRecDepth 100000 in
set_option maxHeartbeats 2000000 in
theorem ckAll {N : List Nd} (hN : N.length ≤ 511) (hfit : ∀ (i : Nat) (h : i < N.length), Fits N[i].2) {w : World} {s room x c cap : Nat} {D : Nat → Prop} {M : Int → Option (Option Lf9)} {a : Option Addr} {rs : List Int} {G : Int → List Int} (h : IsSh w s room N D) (hD : ∀ k, D k → k ≠ x) (hm : IsMm w x c N M) (hr : IntsL w a rs) (hc : c + 511 * rs.length ≤ 90000)
    (hG : ∀ r ∈ rs, ∃ root l qs g, r = ((root : Nat) : Int) ∧ TreeG N root l qs g ∧ g.Nodup ∧ G r = ofP g) :
    Calls Try.prog 14 #[mmV s x, .slice a rs.length cap] w fun e w' => e = .returned (.int .i64 0) ∧ ∃ c' M', IsMm w' x c' N M' ∧ c' ≤ c + 511 * rs.length ∧ Mko M M' G rs ∧ KeptIn (fun k => k < w.heap.size ∧ k ≠ x) w w' := by
  obtain ⟨W, hW⟩ : ∃ W, (w.alloc (.cells #[pgV s, .map (some x)] 60)).alloc (.map #[] 0) = W := ⟨_, rfl⟩
  have hk : KeptIn (· < w.heap.size) w W := by rw [← hW]; exact ((KeptIn.refl _ w).alloc (fun _ h => h) _).alloc (fun _ h => h) _
  obtain ⟨B, hB⟩ : ∃ B, w.heap.size = B := ⟨_, rfl⟩
  have b0 : W.heap[B]? = some (.cells #[pgV s, .map (some x)] 60 (0, 0)) := by
    rw [← hW, ← hB, Lib.alloc_old _ _ _ (by simp)]
    exact heap_alloc_new w _
  have hT : MpAt unV (B + 1) 0 (fun _ => none) W := by
    have := MpAt.new (V := unV) (w.alloc (.cells #[pgV s, .map (some x)] 60))
    rw [World.size_alloc, hB, hW] at this
    exact this
  have H0 : Hid (CkR w s room x (B + 1) c N D M G rs 0 c M (fun _ => none) W) := Lib.hid ⟨hm.old hk, Nat.le_refl _, fun q => by simp, hT, fun q => by simp, h.old hk, hD, hk.mono fun k e => e.1, by omega, by have := hm.lt; omega⟩
  have HDB : Hid (∀ k, D k → k < B) := Lib.hid fun k e => by rw [← hB]; exact h.lt k e
  have HBW : Hid (W.heap[B]? = some (.cells #[pgV s, .map (some x)] 60 (0, 0)) ∧ B ≠ x ∧ w.heap.size = B) := Lib.hid ⟨b0, by have := hm.lt; omega, hB⟩
  have HRS := Lib.hid (And.intro hr (And.intro hc (And.intro hG (And.intro hfit hN))))
  have HMW := Lib.hid hm
  have HW := Lib.hid hW
  obtain ⟨n, hn⟩ : ∃ n, rs.length = n := ⟨_, rfl⟩
  have HN := Lib.hid hn
  unfold mmV pgV at *
  rw [hn]
  clear h hD hm hr hc hG hfit hN hW hk b0 hT hB hn
  go_enter Try.func14, Try.ntmps14
  have hmm := @run_makeMap Try.prog
  go_upto_region 3 with fail
  clear hmm
  rw [HW.out]
  try simp only [World.size_alloc]
  try rw [HBW.out.2.2]
  go_wp2_with fail
  go_loopw [5, 15] (fun e i wr => ∃ (j c' : Nat) (M' : Int → Option (Option Lf9)) (T : Int → Option Unit) (V : World), V = wr ∧ e = .int .i64 0 ∧ i = .int .i64 (j : Int) ∧ j ≤ n ∧ Hid (CkR w s room x (B + 1) c N D M G rs j c' M' T V ∧ V.heap[B]? = some (.cells #[.iface 28 (.pointer (some ⟨s, 0, none⟩)), .map (some x)] 60 (0, 0)))) (fun _ i _ => n - (RowKit.intOf i).toNat)
  case atStart => exact ⟨0, c, M, _, _, rfl, rfl, rfl, Nat.zero_le _, Lib.hid ⟨H0.out, HBW.out.1⟩⟩
  case round =>
    obtain ⟨j, c', M', T, V, rfl, rfl, rfl, hjn, HJ⟩ := hrel
    clear H0
    by_cases hlt : j < n
    · have hjr : j < rs.length := by rw [HN.out]; exact hlt
      have hn1 : n ≤ 1000 := by have := HN.out; have := HRS.out.2.1; omega
      obtain ⟨t1, t2, t3, t4⟩ := rg_idx j n hlt hn1
      obtain ⟨gk, off, rfl, hgl, hcl⟩ := HRS.out.1.cells (by omega)
      have e0 := hcl j hjr
      have hgx : gk ≠ x := fun e => by
        obtain ⟨D0, ⟨es, clock, h1, _⟩, _⟩ := HMW.out.map
        rw [e] at e0
        simp [World.cell?, h1] at e0
      have e1 : V.cell? ⟨gk, off + j, none⟩ = some (.int .i64 (rs.getD j 0)) := (World.cell?_of_block (a := ⟨gk, off + j, none⟩) (HJ.out.1.kept.block gk ⟨hgl, hgx⟩)).trans e0
      obtain ⟨r, hr⟩ : ∃ r, rs[j] = r := ⟨_, rfl⟩
      have hrd : rs.getD j 0 = r := by rw [List.getD_eq_getElem?_getD, List.getElem?_eq_getElem hjr]; exact hr
      rw [hrd] at e1
      obtain ⟨root, l, qs, g, e2, hTg, hnd, hGr⟩ := HRS.out.2.2.1 rs[j] (List.getElem_mem hjr)
      have hrt : root ≤ N.length := by
        rcases hTg with ⟨h1, _⟩ | ⟨ps, g', hS, _⟩
        · omega
        · exact (nodeOf_le hS.node).2
      have hwf : (Lit.int .i64 r).wf = true := by
        have := HRS.out.2.2.2.2
        rw [← hr, e2]
        simp [Lit.wf, IntKind.min, IntKind.max, IntKind.signed, IntKind.bits]
        omega
      have hlk := ((HJ.out.1.met).look unV_inj Try.underlying88 () (zeroEmpty9 V) r hwf).1
      by_cases hin : r ∈ rs.take j
      · have hT1 : (T r).isSome = true := (HJ.out.1.metS r).2 hin
        rw [hT1] at hlk
        unfold unV at hlk
        have HAG : Hid (CkR w s room x (B + 1) c N D M G rs (j + 1) c' M' T V) := Lib.hid (HJ.out.1.again hjr (by rw [hr]; exact hin))
        clear hcl e0 hrd e2 hTg hnd hGr hrt hwf hin hT1 hr hjr
        have hka : KeptIn (· < V.heap.size) V (V.alloc (.cells #[] 89)) := (KeptIn.refl _ V).alloc (fun _ h => h) _
        have HAH := Lib.hid (And.intro (HAG.out.old hka) ((hka.block B (Array.getElem?_eq_some_iff.1 HJ.out.2).1).trans HJ.out.2))
        clear hka
        go_wp2_with fail
        go_roundw
        case rel => exact ⟨j + 1, c', M', T, _, rfl, rfl, congrArg (Value.int .i64) (rg_succ j), by omega, HAH⟩
        case measure => simp only [RowKit.intOf]; exact rg_meas j n hlt
      · have hT1 : (T r).isSome = false := by
          cases e : (T r).isSome
          · rfl
          · exact absurd ((HJ.out.1.metS r).1 e) hin
        rw [hT1] at hlk
        have hka : KeptIn (· < V.heap.size) V (V.alloc (.cells #[] 89)) := (KeptIn.refl _ V).alloc (fun _ h => h) _
        have hJa := HJ.out.1.old hka
        have hBa := (hka.block B (Array.getElem?_eq_some_iff.1 HJ.out.2).1).trans HJ.out.2
        obtain ⟨V2, hrun2, hT2, hk2, hsz2⟩ := hJa.met.store unV_inj Try.underlying88 (by unfold maxLen; omega) r hwf ()
        have hDy : ¬ D (B + 1) := fun e => by have := HDB.out _ e; omega
        have hB2 := (hk2.block B (by show B ≠ B + 1; omega)).trans hBa
        have hmm2 := hJa.mm.map2 hJa.met hJa.ne hk2
        have hsh2 := hJa.sh.kept (hk2.mono fun k hk e => hDy (e ▸ hk))
        have hre : (root : Int) = r := e2.symm.trans hr
        have C := trCheckM HRS.out.2.2.2.2 HRS.out.2.2.2.1 hsh2 hJa.dx hmm2 (by have h1 := hJa.le; have h2 := HRS.out.2.1; omega) hTg hnd
        rw [hre, ← hGr, hr] at C
        unfold mmI mmV pgV at C
        have q0 : V2.cell? ⟨B, 0, none⟩ = some (.iface 28 (.pointer (some ⟨s, 0, none⟩))) := by simp [World.cell?, hB2]
        have q1 : V2.cell? ⟨B, 1, none⟩ = some (.map (some x)) := by simp [World.cell?, hB2]
        have hGl : (G rs[j]).length ≤ 511 := by
          rw [hGr, List.length_map]
          exact Nat.le_trans (nodup_le N.length g hnd hTg.pages) HRS.out.2.2.2.2
        have HC := Lib.hid C
        have HNX : Hid (∀ V3, MmS V3 x c' N M' (G r) → KeptIn (fun k => k < V2.heap.size ∧ k ≠ x) V2 V3 → ∃ c2 M2, CkR w s room x (B + 1) c N D M G rs (j + 1) c2 M2 (mpPut T rs[j] ()) V3 ∧ V3.heap[B]? = some (.cells #[.iface 28 (.pointer (some ⟨s, 0, none⟩)), .map (some x)] 60 (0, 0))) := Lib.hid fun V3 h1 h2 => by
          obtain ⟨c2, M2, h3⟩ := hJa.first hjr (by rw [hr]; exact hT2) hk2 hDy h2 (by rw [hr]; exact h1) hGl
          exact ⟨c2, M2, h3, (h2.block B ⟨(Array.getElem?_eq_some_iff.1 hB2).1, HBW.out.2.1⟩).trans hB2⟩
        unfold unV at hlk hrun2
        clear hcl e0 hrd e2 hTg hnd hGr hrt hwf hin hT1 hka hJa hBa hT2 hk2 hsz2 hDy hB2 hmm2 hsh2 hre C hGl
        go_wp2_with (go_at_call 28; refine HC.out.mono ?_; rintro e V3 ⟨rfl, hm3, hk3⟩; have HV3 := Lib.hid (HNX.out V3 hm3 hk3); clear hm3 hk3)
        go_roundw
        case rel =>
          obtain ⟨c2, M2, h1⟩ := HV3.out
          exact ⟨j + 1, c2, M2, _, _, rfl, rfl, congrArg (Value.int .i64) (rg_succ j), by omega, Lib.hid h1⟩
        case measure => simp only [RowKit.intOf]; exact rg_meas j n hlt
    · obtain ⟨u1, u2⟩ := rg_ge hlt
      have HE : Hid (∃ c' M', IsMm V x c' N M' ∧ c' ≤ c + 511 * n ∧ Mko M M' G rs ∧ KeptIn (fun k => k < w.heap.size ∧ k ≠ x) w V) := Lib.hid (by
        obtain rfl : j = n := by omega
        refine ⟨c', M', HJ.out.1.mm, HJ.out.1.le, ?_, HJ.out.1.kept⟩
        have := HJ.out.1.says
        rw [← HN.out, List.take_length] at this
        exact this)
      clear HJ
      go_wp2_with fail
      go_ret
      exact ⟨rfl, HE.out⟩

end Go.Proofs.Ytjollbaohopmjaa
