import Derived.Test.YtjollbaohopmjaaSq9W
/- Package tree's survey over a memo: a kid's turn, the loop's end. -/
set_option linter.unusedVariables false
namespace Go.Proofs.Ytjollbaohopmjaa
open Go.RowKit

theorem MmS.trans {W' : World} {x c c' : Nat} {N : List Nd} {M M' : Int → Option (Option Lf9)} {ps qs : List Int} (hc : c' ≤ c + ps.length) (hm : Mmo M M' ps) (k : MmS W' x c' N M' qs) : MmS W' x c N M (ps ++ qs) := by
  obtain ⟨c2, M2, h1, h2, h3⟩ := k
  exact ⟨c2, M2, h1, by rw [List.length_append]; omega, hm.trans h3⟩

theorem SoK9.kid {w W : World} {S s B0 xm c z y p g n cg room j l : Nat} {N : List Nd} {D : Nat → Prop} {M : Int → Option (Option Lf9)} {root : Bool} {lv : Int} {lo hi : Nat} {L : Int} {ps qs : Pairs} {g0 : List Nat} {ms1 : List Int}
    (h : SoK9 w S s B0 xm c z y p g n cg room N D M root lv lo hi L ps qs l g0 ms1 j W) (hS : SndL N root lv lo hi (l + 1) p ps qs g0) (hl : l + 1 ≤ 7) (hN : N.length ≤ 511) (hn : ps.length = n) (hj : j < n) (hnd : (ms1 ++ ofP g0).Nodup) (hml : ms1.length + g0.length ≤ 511) :
    ∃ v ms2 ps' q2 g' c' M' qs', SoF9 w S s B0 xm c z y p g n cg room N D M qs' root lv lo hi L ps v ms2 W ∧ IsMm W xm c' N M' ∧ c' ≤ c + qs'.length ∧ Mmo M M' qs' ∧ c' + (1 + g'.length) ≤ c + (1 + g0.length) ∧ SndL N false (l : Int) (keyAt ps j) (highOf ps j hi) l (valAt ps j) ps' q2 g' ∧ ps'.length ≤ 15 ∧ (ms2 ++ ofP (valAt ps j :: g')).Nodup ∧ ms2.length + (1 + g'.length) ≤ 511 ∧
      ∀ v' W', SoF9 w S s B0 xm c z y p g n cg room N D M (qs' ++ ofP (valAt ps j :: g')) root lv lo hi L ps v' (ms2 ++ ofP (valAt ps j :: g')) W' → SoK9 w S s B0 xm c z y p g n cg room N D M root lv lo hi L ps qs l g0 ms1 (j + 1) W' := by
  obtain ⟨v, qa, qb, ga, gb, h1, e, eg, ka, kb, hF⟩ := h
  have hjp : j < ps.length := by omega
  have ed : ps.drop j = (keyAt ps j, valAt ps j) :: ps.drop (j + 1) := by
    rw [List.drop_eq_getElem_cons hjp, keyAt_get hjp, valAt_get hjp]
  rw [ed] at kb
  obtain ⟨q2, q3, g2, g3, e2, eg2, s1, s2, s3, k3⟩ := kb
  obtain ⟨ps', g', eg', hc, hc15⟩ := hS.kidAt hl hN j hjp (q1 := qa) (q2 := q2) (q3 := q3) (by rw [e, e2, List.append_assoc]) s1 s2 s3 k3
  have hlen : g0.length = ga.length + (1 + g'.length + g3.length) := by rw [eg, eg2, eg', List.length_append, List.length_append, List.length_cons]; omega
  obtain ⟨c', M', hm, hcc, hmo⟩ := hF.mm
  have hcc2 : c' ≤ c + (ga.length + 1) := by
    rw [List.length_cons, List.length_map] at hcc
    exact hcc
  refine ⟨v, ms1 ++ ofP ga, ps', q2, g', c', M', (p : Int) :: ofP ga, hF, hm, hcc, hmo, by omega, hc, hc15, ?_, ?_, fun v' W' hF' => ⟨v', qa ++ q2, q3, ga ++ g2, g3, by omega, by rw [e, e2, List.append_assoc], by rw [eg, eg2, List.append_assoc], ?_, k3, ?_⟩⟩
  · rw [eg, eg2, eg', ofP_append, ofP_append, ← List.append_assoc, ← List.append_assoc] at hnd
    exact (List.nodup_append.1 hnd).1
  · rw [List.length_append, List.length_map]; omega
  · have : ps.take (j + 1) = ps.take j ++ [(keyAt ps j, valAt ps j)] := by
      rw [List.take_add_one, List.getElem?_eq_getElem hjp, keyAt_get hjp, valAt_get hjp]; rfl
    rw [this]
    exact ka.append ⟨q2, [], g2, [], by simp, by simp, s1, s2, s3, rfl, rfl⟩
  · rw [ofP_append, eg', ← List.append_assoc]
    exact hF'

theorem SoK9.fin {w W : World} {S s B0 xm c z y p g n cg room j l : Nat} {N : List Nd} {D : Nat → Prop} {M : Int → Option (Option Lf9)} {root : Bool} {lv : Int} {lo hi : Nat} {L : Int} {ps qs : Pairs} {g0 : List Nat} {ms : List Int}
    (h : SoK9 w S s B0 xm c z y p g n cg room N D M root lv lo hi L ps qs l g0 (ms ++ [(p : Int)]) j W) (hn : ps.length = n) (hj : ¬ j < n) : SoQ w S s B0 xm c N M ms (ofP (p :: g0)) (.returned (.bool true)) W := by
  obtain ⟨v, qa, qb, ga, gb, h1, e, eg, ka, kb, hF⟩ := h
  have : ps.drop j = [] := List.drop_eq_nil_iff.2 (by omega)
  rw [this] at kb
  obtain ⟨_, rfl⟩ := kb
  rw [List.append_nil] at eg
  subst eg
  have e2 : ms ++ [(p : Int)] ++ ofP g0 = ms ++ ofP (p :: g0) := by rw [List.append_assoc]; rfl
  have hs := hF.sv
  rw [e2] at hs
  exact ⟨v, rfl, hs, hF.mm, hF.kept⟩

theorem z_go {a b c : World} {x : Nat} (h : KeptIn (· < a.heap.size) a b) (k : KeptIn (fun j => j < b.heap.size ∧ j ≠ x) b c) : KeptIn (fun j => j < a.heap.size ∧ j ≠ x) a c := (h.mono fun j e => e.1).trans (k.mono fun j e => ⟨Nat.lt_of_lt_of_le e.1 h.size, e.2⟩)

theorem so_read9p {w wc V0 V : World} {S s B0 xm c c' z y p g n cg room i : Nat} {N : List Nd} {D : Nat → Prop} {M M' : Int → Option (Option Lf9)} {root : Bool} {lv : Int} {lo hi : Nat} {L : Int} {ps : Pairs} {ms : List Int}
    (h : SoM9 w S s B0 xm c z p room N D M root lv lo hi ms wc) (hix : i < N.length) (hp : i + 1 = p) (he : N[i].2 = ps) (hk0 : KeptIn (· < wc.heap.size) wc V0) (hy : y = wc.heap.size) (hy0 : BoxL y 0 none 0 0 V0) (hk : KeptIn (fun j => j < V0.heap.size ∧ j ≠ xm) V0 V)
    (hm : IsMm V xm c' N M') (hz : M' (p : Int) = some (some (L, g, n, cg))) (hq : ∀ q, q ≠ (p : Int) → M' q = M q) (hc : c' ≤ c + 1) (hn : ps.length = n) :
    ∃ v, SoF9 w S s B0 xm c z y p g n cg room N D M [(p : Int)] root lv lo hi L ps v ms ((V.setCell ⟨y, 0, none⟩ (.int .i64 L)).setCell ⟨y, 1, none⟩ (.slice (some ⟨g, 0, none⟩) n cg)) := by
  subst hp he
  exact so_read9 h hix hk0 hy hy0 hk hm hz hq hc hn
theorem so_read29p {w wc V : World} {S s B0 xm c c' z p g n cg room i : Nat} {N : List Nd} {D : Nat → Prop} {M M' : Int → Option (Option Lf9)} {root : Bool} {lv : Int} {lo hi : Nat} {L : Int} {ps : Pairs} {ms : List Int}
    (h : SoM9 w S s B0 xm c z p room N D M root lv lo hi ms wc) (hix : i < N.length) (hp : i + 1 = p) (he : N[i].2 = ps) (hk : KeptIn (fun j => j < wc.heap.size ∧ j ≠ xm) wc V)
    (hm : IsMm V xm c' N M') (hz : M' (p : Int) = some (some (L, g, n, cg))) (hq : ∀ q, q ≠ (p : Int) → M' q = M q) (hc : c' ≤ c + 1) (hn : ps.length = n) :
    ∃ v, SoF9 w S s B0 xm c z V.heap.size p g n cg room N D M [(p : Int)] root lv lo hi L ps v ms (V.alloc (.cells #[.int .i64 L, .slice (some ⟨g, 0, none⟩) n cg] 27)) := by
  subst hp he
  exact so_read29 h hix hk hm hz hq hc hn

theorem SoM9.facts {w V V' : World} {S s B0 xm c z p room : Nat} {N : List Nd} {D : Nat → Prop} {M : Int → Option (Option Lf9)} {root : Bool} {lv : Int} {lo hi : Nat} {ms : List Int} (h : SoM9 w S s B0 xm c z p room N D M root lv lo hi ms V) (hk : KeptIn (fun j => j < V.heap.size ∧ j ≠ xm) V V') :
    V'.cell? ⟨S, 0, none⟩ = some (mmI s xm) ∧ V'.cell? ⟨z, 0, none⟩ = some (.int .i64 (p : Int)) ∧ V'.cell? ⟨z, 1, none⟩ = some (.bool root) ∧ V'.cell? ⟨z, 2, none⟩ = some (.int .i64 lv) ∧ V'.cell? ⟨z, 3, none⟩ = some (.int .u64 (lo : Int)) ∧ V'.cell? ⟨z, 4, none⟩ = some (.int .u64 (hi : Int)) := by
  obtain ⟨v, h1, h2, _, _, _, _, h7⟩ := h
  have hs := (h1.read h7 hk).box
  have hb := h2.kept hk ⟨h2.lt, h7.map.ne h2⟩
  exact ⟨(cell_of_row _ _ 0 _ _ _ hs).trans rfl, hb.c0, hb.c1, hb.c2, hb.c3, hb.c4⟩

end Go.Proofs.Ytjollbaohopmjaa
