import Derived.Test.YtdbohcdjamhdjaaV6
import Derived.Deep.Cut
import Derived.Deep.RegionHeld3
/- Package tree's mayBeSound: over a sound tree it meets all pages. -/
set_option linter.unusedVariables false
namespace Go.Proofs.Ytdbohcdjamhdjaa
open Go.RowKit

/-- What stands behind the append to the pages met. -/
def SoM (w : World) (S s B0 x p room : Nat) (N : List Nd) (D : Nat → Prop) (root : Bool) (lv : Int) (lo hi : Nat) (ms : List Int) (V : World) : Prop :=
  ∃ v, SvAt V S s B0 v ms ∧ BoxD x p root lv lo hi V ∧ IsSh V s room N D ∧ (∀ k, D k → k < S) ∧ KeptIn (SdY w S B0) w V ∧ w.heap.size ≤ x

theorem so_met {w W V w1 : World} {S s B0 x p room m cap gg cap' : Nat} {N : List Nd} {D : Nat → Prop} {root : Bool} {lv : Int} {lo hi : Nat} {ms : List Int} {a : Option Addr} {o : Obj}
    (hsv : SvAt V S s B0 (.slice a m cap) ms) (hb : BoxD x p root lv lo hi V) (hsh : IsSh V s room N D) (hD : ∀ k, D k → k < S) (hk : KeptIn (SdY w S B0) w V) (hx : w.heap.size ≤ x) (hm : ms.length = m)
    (hg : (V.alloc o).grownBy w1 (Value.slice a m cap).ownBlock) (hown : w1.ownsRow B0 3 1 (.slice (some ⟨gg, 0, none⟩) (m + 1) cap') (m + 1) (cellsI ms ++ [.int .i64 (p : Int)])) :
    SoM w S s B0 x p room N D root lv lo hi (ms ++ [(p : Int)]) (w1.setCell ⟨S, 1, none⟩ (.slice (some ⟨gg, 0, none⟩) (m + 1) cap')) := by
  have h1 : KeptIn (SdX V S (.slice a m cap)) V (w1.setCell ⟨S, 1, none⟩ (.slice (some ⟨gg, 0, none⟩) (m + 1) cap')) := sd_kept (m := m) (S := S) (v := .slice a m cap) hg
  exact ⟨_, sd_at hsv hm hg hown, sd_box (gg := gg) (cap' := cap') hsv hb (sdy_lead hsv hb).2.1 hg _, sd_sh hsv hsh hD hg _, hD, sdy_trans hk (h1.mono fun k hk => sdx_y hsv hk), hx⟩

theorem so_read {w wc V0 V : World} {S s B0 x y p g n cg room : Nat} {N : List Nd} {D : Nat → Prop} {root : Bool} {lv : Int} {lo hi : Nat} {L : Int} {ps : Pairs} {ms : List Int}
    (h : SoM w S s B0 x p room N D root lv lo hi ms wc) (hk0 : KeptIn (· < wc.heap.size) wc V0) (hy : y = wc.heap.size) (hy0 : BoxL y 0 none 0 0 V0) (hk : KeptIn (· < V0.heap.size) V0 V) (hg : V0.heap.size ≤ g)
    (hps : IsPs V (some ⟨g, 0, none⟩) ps) (hty : TyP V g) (hn : ps.length = n) :
    ∃ v, SoF w S s B0 x y p g n cg room N D root lv lo hi L ps v ms ((V.setCell ⟨y, 0, none⟩ (.int .i64 L)).setCell ⟨y, 1, none⟩ (.slice (some ⟨g, 0, none⟩) n cg)) := by
  obtain ⟨v, h1, h2, h3, h4, h5, h6⟩ := h
  have hb := hy0.kept hk hy0.lt
  have hset := hb.set (lv' := L) (a' := some ⟨g, 0, none⟩) (n' := n) (cap' := cg)
  have hgy : g ≠ y := by have := hy0.lt; omega
  have hkf : KeptIn (· < wc.heap.size) wc ((V.setCell ⟨y, 0, none⟩ (.int .i64 L)).setCell ⟨y, 1, none⟩ (.slice (some ⟨g, 0, none⟩) n cg)) := ((hk0.go hk).setCell (p := ⟨y, 0, none⟩) (by simp; omega) _).setCell (p := ⟨y, 1, none⟩) (by simp; omega) _
  refine ⟨v, h1.old hkf, h2.kept hkf h2.lt, hset, ?_, ?_, h3.old hkf, h4, sdy_trans h5 (sdy_old hkf), hn⟩
  · exact psSet (psSet hps ⟨y, 0, none⟩ _ (fun p e => by cases e; exact hgy)) ⟨y, 1, none⟩ _ (fun p e => by cases e; exact hgy)
  · obtain ⟨cs, fr, hb⟩ := hty
    exact ⟨cs, fr, (heap_setCell_other _ _ _ _ hgy).trans ((heap_setCell_other _ _ _ _ hgy).trans hb)⟩

theorem so_read2 {w wc V : World} {S s B0 x p g n cg room : Nat} {N : List Nd} {D : Nat → Prop} {root : Bool} {lv : Int} {lo hi : Nat} {L : Int} {ps : Pairs} {ms : List Int}
    (h : SoM w S s B0 x p room N D root lv lo hi ms wc) (hk : KeptIn (· < wc.heap.size) wc V) (hps : IsPs V (some ⟨g, 0, none⟩) ps) (hty : TyP V g) (hn : ps.length = n) :
    ∃ v, SoF w S s B0 x V.heap.size p g n cg room N D root lv lo hi L ps v ms (V.alloc (.cells #[.int .i64 L, .slice (some ⟨g, 0, none⟩) n cg] 27)) := by
  obtain ⟨v, h1, h2, h3, h4, h5, h6⟩ := h
  have hka : KeptIn (· < V.heap.size) V (V.alloc (.cells #[.int .i64 L, .slice (some ⟨g, 0, none⟩) n cg] 27)) := (KeptIn.refl _ V).alloc (fun _ h => h) _
  have hkf := hk.go hka
  exact ⟨v, h1.old hkf, h2.kept hkf h2.lt, BoxL.new V _ _ _ _, hps.old hka, hty.old hka, h3.old hkf, h4, sdy_trans h5 (sdy_old hkf), hn⟩

/-- What stands in the loop over a node's kids. -/
def SoK (w : World) (S s B0 x y p g n cg room : Nat) (N : List Nd) (D : Nat → Prop) (root : Bool) (lv : Int) (lo hi : Nat) (L : Int) (ps qs : Pairs) (l : Nat) (g0 : List Nat) (ms1 : List Int) (j : Nat) (W : World) : Prop :=
  ∃ v qa qb ga gb, j ≤ n ∧ qs = qa ++ qb ∧ g0 = ga ++ gb ∧ Kids (Snd N l) (ps.take j) qa ga ∧ Kids (Snd N l) (ps.drop j) qb gb ∧ SoF w S s B0 x y p g n cg room N D root lv lo hi L ps v (ms1 ++ ofP ga) W

theorem SoK.kid {w W : World} {S s B0 x y p g n cg room j l : Nat} {N : List Nd} {D : Nat → Prop} {root : Bool} {lv : Int} {lo hi : Nat} {L : Int} {ps qs : Pairs} {g0 : List Nat} {ms1 : List Int}
    (h : SoK w S s B0 x y p g n cg room N D root lv lo hi L ps qs l g0 ms1 j W) (hS : SndL N root lv lo hi (l + 1) p ps qs g0) (hl : l + 1 ≤ 7) (hN : N.length ≤ 511) (hn : ps.length = n) (hj : j < n) (hnd : (ms1 ++ ofP g0).Nodup) (hml : ms1.length + g0.length ≤ 511) :
    ∃ v ms2 ps' q2 g', SoF w S s B0 x y p g n cg room N D root lv lo hi L ps v ms2 W ∧ SndL N false (l : Int) (keyAt ps j) (highOf ps j hi) l (valAt ps j) ps' q2 g' ∧ ps'.length ≤ 15 ∧ (ms2 ++ ofP (valAt ps j :: g')).Nodup ∧ ms2.length + (1 + g'.length) ≤ 511 ∧
      ∀ v' W', SoF w S s B0 x y p g n cg room N D root lv lo hi L ps v' (ms2 ++ ofP (valAt ps j :: g')) W' → SoK w S s B0 x y p g n cg room N D root lv lo hi L ps qs l g0 ms1 (j + 1) W' := by
  obtain ⟨v, qa, qb, ga, gb, h1, e, eg, ka, kb, hF⟩ := h
  have hjp : j < ps.length := by omega
  have ed : ps.drop j = (keyAt ps j, valAt ps j) :: ps.drop (j + 1) := by
    rw [List.drop_eq_getElem_cons hjp, keyAt_get hjp, valAt_get hjp]
  rw [ed] at kb
  obtain ⟨q2, q3, g2, g3, e2, eg2, s1, s2, s3, k3⟩ := kb
  obtain ⟨ps', g', eg', hc, hc15⟩ := hS.kidAt hl hN j hjp (q1 := qa) (q2 := q2) (q3 := q3) (by rw [e, e2, List.append_assoc]) s1 s2 s3 k3
  have hlen : g0.length = ga.length + (1 + g'.length + g3.length) := by rw [eg, eg2, eg', List.length_append, List.length_append, List.length_cons]; omega
  refine ⟨v, ms1 ++ ofP ga, ps', q2, g', hF, hc, hc15, ?_, ?_, fun v' W' hF' => ⟨v', qa ++ q2, q3, ga ++ g2, g3, by omega, by rw [e, e2, List.append_assoc], by rw [eg, eg2, List.append_assoc], ?_, k3, ?_⟩⟩
  · rw [eg, eg2, eg', ofP_append, ofP_append, ← List.append_assoc, ← List.append_assoc] at hnd
    exact (List.nodup_append.1 hnd).1
  · rw [List.length_append, List.length_map]; omega
  · have : ps.take (j + 1) = ps.take j ++ [(keyAt ps j, valAt ps j)] := by
      rw [List.take_add_one, List.getElem?_eq_getElem hjp, keyAt_get hjp, valAt_get hjp]; rfl
    rw [this]
    exact ka.append ⟨q2, [], g2, [], by simp, by simp, s1, s2, s3, rfl, rfl⟩
  · rw [ofP_append, eg', ← List.append_assoc]
    exact hF'

theorem SoK.fin {w W : World} {S s B0 x y p g n cg room j l : Nat} {N : List Nd} {D : Nat → Prop} {root : Bool} {lv : Int} {lo hi : Nat} {L : Int} {ps qs : Pairs} {g0 : List Nat} {ms : List Int}
    (h : SoK w S s B0 x y p g n cg room N D root lv lo hi L ps qs l g0 (ms ++ [(p : Int)]) j W) (hn : ps.length = n) (hj : ¬ j < n) : SoP w S s B0 (ms ++ ofP (p :: g0)) (.returned (.bool true)) W := by
  obtain ⟨v, qa, qb, ga, gb, h1, e, eg, ka, kb, hF⟩ := h
  have : ps.drop j = [] := List.drop_eq_nil_iff.2 (by omega)
  rw [this] at kb
  obtain ⟨_, rfl⟩ := kb
  rw [List.append_nil] at eg
  subst eg
  have e2 : ms ++ [(p : Int)] ++ ofP g0 = ms ++ ofP (p :: g0) := by rw [List.append_assoc]; rfl
  rw [e2] at hF
  exact ⟨v, rfl, hF.sv, hF.kept⟩

theorem SoM.facts {w V V' : World} {S s B0 x p room : Nat} {N : List Nd} {D : Nat → Prop} {root : Bool} {lv : Int} {lo hi : Nat} {ms : List Int} (h : SoM w S s B0 x p room N D root lv lo hi ms V) (hk : KeptIn (· < V.heap.size) V V') :
    V'.cell? ⟨S, 0, none⟩ = some (pgV s) ∧ V'.cell? ⟨x, 0, none⟩ = some (.int .i64 (p : Int)) ∧ V'.cell? ⟨x, 1, none⟩ = some (.bool root) ∧ V'.cell? ⟨x, 2, none⟩ = some (.int .i64 lv) ∧ V'.cell? ⟨x, 3, none⟩ = some (.int .u64 (lo : Int)) ∧ V'.cell? ⟨x, 4, none⟩ = some (.int .u64 (hi : Int)) := by
  obtain ⟨v, h1, h2, _⟩ := h
  have hs := (h1.old hk).box
  have hb := h2.kept hk h2.lt
  exact ⟨(cell_of_row _ _ 0 _ _ _ hs).trans rfl, hb.c0, hb.c1, hb.c2, hb.c3, hb.c4⟩


set_option maxRecDepth 100000 in
set_option maxHeartbeats 4000000 in
theorem trSound {N : List Nd} (hN : N.length ≤ 511) (s room : Nat) : ∀ {l : Nat} {root : Bool} {lv : Int} {lo hi p : Nat} {ps qs : Pairs} {g0 : List Nat} {w : World} {D : Nat → Prop} {S B0 : Nat} {v : Value} {ms : List Int}, IsSh w s room N D → (∀ k, D k → k < S) → SvAt w S s B0 v ms → SndL N root lv lo hi l p ps qs g0 → l ≤ 7 → ps.length ≤ 15 → hi < 18446744073709551616 → (ms ++ ofP (p :: g0)).Nodup → ms.length + (1 + g0.length) ≤ 511 →
    Calls Try.prog 57 #[.pointer (some ⟨S, 0, none⟩), leadV p root lv lo hi] w (SoP w S s B0 (ms ++ ofP (p :: g0))) := by
  intro l
  induction l with
  | zero =>
    intro root lv lo hi p ps qs g0 w D S B0 v ms hsh hD h hS hl7 h15 hhi hnd hml
    obtain ⟨hb1, hb2⟩ := hS.body
    subst hb1 hb2
    obtain ⟨ix, hix, hqi, hni⟩ := nodeOf_at hS.node
    obtain ⟨a, cap, rfl⟩ := row_sliceI h.row
    obtain ⟨m, hm⟩ : ∃ m, ms.length = m := ⟨_, rfl⟩
    rw [hm] at h hml
    obtain ⟨W, hW⟩ : ∃ W, w.alloc (.cells #[.int .i64 (p : Int), .bool root, .int .i64 lv, .int .u64 (lo : Int), .int .u64 (hi : Int)] 111) = W := ⟨_, rfl⟩
    have hkW : KeptIn (· < w.heap.size) w W := by rw [← hW]; exact (KeptIn.refl _ w).alloc (fun _ h => h) _
    have hbd : BoxD w.heap.size p root lv lo hi W := by rw [← hW]; exact BoxD.new w p root lv lo hi
    have hsv := h.old hkW
    have hshW := hsh.old hkW
    have hSW : W.heap[S]? = some (.cells #[pgV s, .slice a m cap, .int .i64 0] 125 (0, 0)) := hsv.box
    have c0 : W.cell? ⟨S, 0, none⟩ = some (pgV s) := (cell_of_row _ _ 0 _ _ _ hSW).trans rfl
    have c1 : W.cell? ⟨S, 1, none⟩ = some (.slice a m cap) := (cell_of_row _ _ 1 _ _ _ hSW).trans rfl
    have hp : (p : Int) ∉ ms := by
      intro hin
      have := (List.nodup_append.1 hnd).2.2 _ hin _ (List.mem_map.2 ⟨p, List.mem_cons_self, rfl⟩)
      exact this rfl
    have hrowW : W.ownsRow B0 3 1 (.slice a m cap) m (cellsI ms) := by have := hsv.row; rw [hm] at this; exact this
    have hI : IntsL W a ms := by
      have h1 := hrowW
      rw [← hm] at h1
      exact rowIntsL h1 (by unfold maxLen; omega)
    have HQ := Lib.hid fun n => iContQ hI (x := (p : Int)) (cap := cap) hm (decide_eq_false hp) n
    have d0 := hbd.c0
    have d1 := hbd.c1
    have d2 := hbd.c2
    have d3 := hbd.c3
    have d4 := hbd.c4
    obtain ⟨x, hx⟩ : ∃ x, w.heap.size = x := ⟨_, rfl⟩
    have HG : Hid (∀ (nq : Nat) (w1 : World), (((W.drewN nq).drew).alloc (.cells #[.int .i64 (p : Int)] 3)).grownBy w1 (Value.slice a m cap).ownBlock → w1.cell? ⟨S, 1, none⟩ = some (.slice a m cap) ∧ w1.frozen? ⟨S, 1, none⟩ = false) := Lib.hid fun nq w1 hg => by
      have hSlt : S < W.heap.size := Nat.lt_of_lt_of_le hsv.lt hsv.le
      have hn := rowS_ne hrowW hSW (by decide)
      have h1 : w1.heap[S]? = W.heap[S]? := (hg.block _ (by simp; exact Nat.lt_succ_of_lt hSlt) (fun e => hn e.symm)).trans (Lib.alloc_old ((W.drewN nq).drew) _ _ hSlt)
      exact ⟨(World.cell?_of_block (a := ⟨S, 1, none⟩) h1).trans ((cell_of_row _ _ 1 _ _ _ hSW).trans rfl), (World.frozen?_of_block (a := ⟨S, 1, none⟩) h1).trans (by simp [World.frozen?, hSW])⟩
    have HM : Hid (∀ (nq : Nat) (w1 : World) (gg cap' : Nat), (((W.drewN nq).drew).alloc (.cells #[.int .i64 (p : Int)] 3)).grownBy w1 (Value.slice a m cap).ownBlock → w1.ownsRow B0 3 1 (.slice (some ⟨gg, 0, none⟩) (m + 1) cap') (m + 1) (cellsI ms ++ [.int .i64 (p : Int)]) →
        SoM w S s B0 x p room N D root lv lo hi (ms ++ [(p : Int)]) (w1.setCell ⟨S, 1, none⟩ (.slice (some ⟨gg, 0, none⟩) (m + 1) cap'))) := Lib.hid fun nq w1 gg cap' hg hown => by
      refine so_met (W := W) (V := (W.drewN nq).drew) ⟨hsv.box, hsv.row, hsv.lt, hsv.le⟩ ?_ (hshW.old ((KeptIn.refl _ W).drewN nq).drew) hD (sdy_old (hkW.drewN nq).drew) (Nat.le_of_eq hx) hm hg hown
      rw [hx] at hbd
      exact hbd
    have hB0 : B0 ≤ W.heap.size := hsv.le
    have hS0 : S < B0 := hsv.lt
    have HROW := Lib.hid hrowW
    have hSx : S ≠ x := by rw [← hx]; have := h.lt; have := h.le; omega
    have HRD : Hid (∀ V, IsSh V s room N D → Calls Try.prog 47 #[leadV p root lv lo hi, pgV s] V (RdS V (0 : Int) ps)) := Lib.hid fun V hV => by
      have := trLeadRead hV ix hix root lv lo hi (by rw [hni]; exact hS.fit)
      rw [hqi, hni] at this
      try rw [hLV] at this
      exact this
    obtain ⟨ip, hip, hp0, hp1, hp2⟩ := info_parts infoInt8
    obtain ⟨n, hn⟩ : ∃ n, ps.length = n := ⟨_, rfl⟩
    have HN := Lib.hid hn
    have HML := Lib.hid hm
    have HH := Lib.hid (And.intro hsh (And.intro hD (And.intro hS (And.intro hnd (And.intro hml hl7)))))
    clear hrowW hshW hsv hkW hbd hp hI hSW h hsh hD hS hnd hix hqi hni hn hm
    unfold pgV leadV at *
    rw [hx] at d0 d1 d2 d3 d4
    go_enter Try.func57, Try.ntmps57
    go_wp2_with fail
    go_quiet ((go_at_call 79; exact Calls.quiet_of_same (HQ.out _)))
    go_upto_region 3 with fail
    go_cut [] from 8 (fun wx => Hid (SoM w S s B0 x p room N D root lv lo hi (ms ++ [(p : Int)]) wx))
    case first =>
      go_wp2_with fail
      have c1' : ((W.drewN nq).drew).cell? ⟨S, 1, none⟩ = some (.slice a m cap) := c1
      have x0' : ((W.drewN nq).drew).cell? ⟨x, 0, none⟩ = some (.int .i64 (p : Int)) := d0
      have hrow8 : ((W.drewN nq).drew).ownsRow B0 3 1 (.slice a m cap) m (cellsI ms) := HROW.out
      have hsz8 : B0 ≤ ((W.drewN nq).drew).heap.size := hB0
      have hSV : S < ((W.drewN nq).drew).heap.size := Nat.lt_of_lt_of_le hS0 hB0
      have cc8 : (((W.drewN nq).drew).alloc (.cells #[.int .i64 (p : Int)] 3)).cell? ⟨S, 1, none⟩ = some (.slice a m cap) := (World.cell?_of_block (a := ⟨S, 1, none⟩) (Lib.alloc_old ((W.drewN nq).drew) _ _ hSV)).trans c1
      have hgr8 := HG.out nq
      have hme8 := HM.out nq
      obtain ⟨V, hV⟩ : ∃ V, (W.drewN nq).drew = V := ⟨_, rfl⟩
      rw [hV] at c1' x0' hrow8 hsz8 hgr8 cc8 hme8
      clear hSV
      go_region_law (first
        | (refine step_append_lies _ (by rfl) _ _ 23 (by rfl) B0 3 ip _ 1 8 Try.underlying23 hip hp0 hp1 hp2 rfl (by omega) (.slice a m cap) m _ (by rfl) (hrow8.alloc _) ⟨V.heap.size, 0, none⟩ 1 1 [.int .i64 (p : Int)] (by rfl) (by rfl) (World.news_of_block (cs := #[.int .i64 (p : Int)]) (t := 3) (fr := (0, 0)) (heap_alloc_new V _)) (by simp [Value.oneCell']) (by omega) (by unfold maxLen; omega) (by omega) (by simp; omega) (V.heap.size + 1) (by simp) ?_; intro gg cap' w1 hown1 hgrow hat hlt1; obtain ⟨e0', ef⟩ := hgr8 w1 hgrow; have hmm := hme8 w1 gg cap' hgrow hown1))
      all_goals
        clear hgr8 hme8 hrow8
        go_wp2_with fail
        go_meet
        case rel => exact Lib.hid hmm
    case rest =>
      have HC := hcut
      clear hcut HM HG HQ HROW c0 c1 d0 d1 d2 d3 d4
      have HF := Lib.hid fun V (hk : KeptIn (· < wc.heap.size) wc V) => HC.out.facts hk
      obtain ⟨c0, d0, d1, d2, d3, d4⟩ := HC.out.facts (KeptIn.refl _ wc)
      have HSH : Hid (∀ V, KeptIn (· < wc.heap.size) wc V → IsSh V s room N D) := Lib.hid fun V hk => HC.out.choose_spec.2.2.1.old hk
      unfold pgV at HF c0
      go_upto_region 4 with fail
      go_cut [5, 6] from 8 (fun s5 s6 wx => ∃ y g cg : Nat, s5 = .pointer (some ⟨y, 0, none⟩) ∧ s6 = .int .i64 0 ∧ Hid (∃ v, SoF w S s B0 x y p g n cg room N D root lv lo hi 0 ps v (ms ++ [(p : Int)]) wx))
      case first =>
        go_wp2_with fail
        go_region_held3 (fun w' => w'.cell? ⟨S, 0, none⟩ = some (.iface 28 (.pointer (some ⟨s, 0, none⟩))) ∧ w'.cell? ⟨x, 0, none⟩ = some (.int .i64 (p : Int)) ∧ w'.cell? ⟨x, 1, none⟩ = some (.bool root) ∧ w'.cell? ⟨x, 2, none⟩ = some (.int .i64 lv) ∧ w'.cell? ⟨x, 3, none⟩ = some (.int .u64 (lo : Int)) ∧ w'.cell? ⟨x, 4, none⟩ = some (.int .u64 (hi : Int)))
          (first | exact ⟨c0, d0, d1, d2, d3, d4⟩ | exact HF.out _ (KeptIn.refl _ _).drew | exact HF.out _ (((KeptIn.refl _ _).alloc (fun _ h => h) _).drew) | exact HF.out _ ((KeptIn.refl _ _).drew.go hk) | exact HF.out _ ((((KeptIn.refl _ _).alloc (fun _ h => h) _).drew).go hk) | exact HF.out _ (((KeptIn.refl _ _).drew.go hk).alloc (fun _ h => h) _) | exact HF.out _ ((((KeptIn.refl _ _).drew.go hk).alloc (fun _ h => h) _).setCell (Nat.not_lt.2 hk.size) _) | exact HF.out _ (((((KeptIn.refl _ _).drew.go hk).alloc (fun _ h => h) _).setCell (Nat.not_lt.2 hk.size) _).setCell (Nat.not_lt.2 hk.size) _) | exact HF.out _ ((((((KeptIn.refl _ _).alloc (fun _ h => h) _).drew).go hk).setCell (by simp) _).setCell (by simp) _))
          (first | (go_at_call 47; first | (refine (HRD.out _ (HSH.out wc.drew (KeptIn.refl _ _).drew)).mono ?_; rintro e V ⟨g, cg, rfl, hps, hg, hk, hty⟩; rw [HN.out]; unfold leafV) | (refine (HRD.out _ (HSH.out (wc.alloc (.cells #[.int .i64 0, .slice none 0 0] 27)).drew (((KeptIn.refl _ _).alloc (fun _ h => h) _).drew))).mono ?_; rintro e V ⟨g, cg, rfl, hps, hg, hk, hty⟩; have hb9 := (show BoxL wc.heap.size 0 none 0 0 (wc.alloc (.cells #[.int .i64 0, .slice none 0 0] 27)).drew from heap_alloc_new wc _).kept (W' := V) hk (Nat.lt_of_lt_of_le (Nat.lt_succ_self _) (Nat.le_of_eq (World.size_alloc _ _).symm)); have e0 := hb9.c0; have e1 := hb9.c1; have g0 := hb9.f0; have g1 := hb9.f1; rw [HN.out]; unfold leafV)))
        · go_wp2_with fail
          go_meet
          case rel => exact ⟨_, _, _, rfl, rfl, Lib.hid (so_read2 HC.out ((KeptIn.refl _ wc).drew.go hk) hps hty.1 HN.out)⟩
        · go_wp2_with fail
          go_meet
          case rel => exact ⟨_, _, _, rfl, rfl, Lib.hid (so_read HC.out (((KeptIn.refl _ wc).alloc (fun _ h => h) _).drew) rfl (show BoxL wc.heap.size 0 none 0 0 (wc.alloc (.cells #[.int .i64 0, .slice none 0 0] 27)).drew from heap_alloc_new wc _) hk hg hps hty.1 HN.out)⟩
      case rest =>
        obtain ⟨y, g, cg, rfl, rfl, hq⟩ := hcut
        have HQ := hq
        clear hq HC HF HSH c0 d0 d1 d2 d3 d4 HRD
        obtain ⟨v2, hF⟩ := HQ.out
        have y0 := hF.leaf.c0
        have y1 := hF.leaf.c1
        have HF := Lib.hid hF
        clear HQ hF
        go_wp2_with fail
        go_ret
        exact ⟨v2, rfl, HF.out.sv, HF.out.kept⟩
  | succ l ih =>
    intro root lv lo hi p ps qs g0 w D S B0 v ms hsh hD h hS hl7 h15 hhi hnd hml
    obtain ⟨hgood, hpos⟩ := fit_good' hS.fit
    have hval := good_vals hgood (by omega)
    have CT : ∀ (j g cg : Nat) (W : World), j < ps.length → IsPs W (some ⟨g, 0, none⟩) ps → Calls Try.prog 50 #[leafV ((l + 1 : Nat) : Int) (some ⟨g, 0, none⟩) ps.length cg, .int .i64 (j : Int), .int .u64 (hi : Int)] W fun e w' => e = .returned (leadV (valAt ps j) false (l : Int) (keyAt ps j) (highOf ps j hi)) ∧ KeptIn (· < W.heap.size) W w' := by
      intro j g cg W hj hp
      have := trToChild (l + 1) (some ⟨g, 0, none⟩) cg ps j hi W hp (good_rises hgood) hj (by omega) ⟨by omega, hl7⟩ (hval j hj).2
      rw [show ((l + 1 : Nat) : Int) - 1 = (l : Int) by omega] at this
      exact this
    have z0 : (((l + 1 : Nat) : Int) == 0) = false := by rw [beq_eq_false_iff_ne]; omega
    have z1 : ¬ ((l + 1 : Nat) : Int) = 0 := by omega
    obtain ⟨LV, hLV⟩ : ∃ LV : Int, ((l + 1 : Nat) : Int) = LV := ⟨_, rfl⟩
    rw [hLV] at z0 z1 CT
    have HCT := Lib.hid CT
    have HX := Lib.hid (And.intro h15 hhi)
    clear CT hgood hval hpos
    unfold leafV at HCT
    obtain ⟨ix, hix, hqi, hni⟩ := nodeOf_at hS.node
    obtain ⟨a, cap, rfl⟩ := row_sliceI h.row
    obtain ⟨m, hm⟩ : ∃ m, ms.length = m := ⟨_, rfl⟩
    rw [hm] at h hml
    obtain ⟨W, hW⟩ : ∃ W, w.alloc (.cells #[.int .i64 (p : Int), .bool root, .int .i64 lv, .int .u64 (lo : Int), .int .u64 (hi : Int)] 111) = W := ⟨_, rfl⟩
    have hkW : KeptIn (· < w.heap.size) w W := by rw [← hW]; exact (KeptIn.refl _ w).alloc (fun _ h => h) _
    have hbd : BoxD w.heap.size p root lv lo hi W := by rw [← hW]; exact BoxD.new w p root lv lo hi
    have hsv := h.old hkW
    have hshW := hsh.old hkW
    have hSW : W.heap[S]? = some (.cells #[pgV s, .slice a m cap, .int .i64 0] 125 (0, 0)) := hsv.box
    have c0 : W.cell? ⟨S, 0, none⟩ = some (pgV s) := (cell_of_row _ _ 0 _ _ _ hSW).trans rfl
    have c1 : W.cell? ⟨S, 1, none⟩ = some (.slice a m cap) := (cell_of_row _ _ 1 _ _ _ hSW).trans rfl
    have hp : (p : Int) ∉ ms := by
      intro hin
      have := (List.nodup_append.1 hnd).2.2 _ hin _ (List.mem_map.2 ⟨p, List.mem_cons_self, rfl⟩)
      exact this rfl
    have hrowW : W.ownsRow B0 3 1 (.slice a m cap) m (cellsI ms) := by have := hsv.row; rw [hm] at this; exact this
    have hI : IntsL W a ms := by
      have h1 := hrowW
      rw [← hm] at h1
      exact rowIntsL h1 (by unfold maxLen; omega)
    have HQ := Lib.hid fun n => iContQ hI (x := (p : Int)) (cap := cap) hm (decide_eq_false hp) n
    have d0 := hbd.c0
    have d1 := hbd.c1
    have d2 := hbd.c2
    have d3 := hbd.c3
    have d4 := hbd.c4
    obtain ⟨x, hx⟩ : ∃ x, w.heap.size = x := ⟨_, rfl⟩
    have HG : Hid (∀ (nq : Nat) (w1 : World), (((W.drewN nq).drew).alloc (.cells #[.int .i64 (p : Int)] 3)).grownBy w1 (Value.slice a m cap).ownBlock → w1.cell? ⟨S, 1, none⟩ = some (.slice a m cap) ∧ w1.frozen? ⟨S, 1, none⟩ = false) := Lib.hid fun nq w1 hg => by
      have hSlt : S < W.heap.size := Nat.lt_of_lt_of_le hsv.lt hsv.le
      have hn := rowS_ne hrowW hSW (by decide)
      have h1 : w1.heap[S]? = W.heap[S]? := (hg.block _ (by simp; exact Nat.lt_succ_of_lt hSlt) (fun e => hn e.symm)).trans (Lib.alloc_old ((W.drewN nq).drew) _ _ hSlt)
      exact ⟨(World.cell?_of_block (a := ⟨S, 1, none⟩) h1).trans ((cell_of_row _ _ 1 _ _ _ hSW).trans rfl), (World.frozen?_of_block (a := ⟨S, 1, none⟩) h1).trans (by simp [World.frozen?, hSW])⟩
    have HM : Hid (∀ (nq : Nat) (w1 : World) (gg cap' : Nat), (((W.drewN nq).drew).alloc (.cells #[.int .i64 (p : Int)] 3)).grownBy w1 (Value.slice a m cap).ownBlock → w1.ownsRow B0 3 1 (.slice (some ⟨gg, 0, none⟩) (m + 1) cap') (m + 1) (cellsI ms ++ [.int .i64 (p : Int)]) →
        SoM w S s B0 x p room N D root lv lo hi (ms ++ [(p : Int)]) (w1.setCell ⟨S, 1, none⟩ (.slice (some ⟨gg, 0, none⟩) (m + 1) cap'))) := Lib.hid fun nq w1 gg cap' hg hown => by
      refine so_met (W := W) (V := (W.drewN nq).drew) ⟨hsv.box, hsv.row, hsv.lt, hsv.le⟩ ?_ (hshW.old ((KeptIn.refl _ W).drewN nq).drew) hD (sdy_old (hkW.drewN nq).drew) (Nat.le_of_eq hx) hm hg hown
      rw [hx] at hbd
      exact hbd
    have hB0 : B0 ≤ W.heap.size := hsv.le
    have hS0 : S < B0 := hsv.lt
    have HROW := Lib.hid hrowW
    have hSx : S ≠ x := by rw [← hx]; have := h.lt; have := h.le; omega
    have HRD : Hid (∀ V, IsSh V s room N D → Calls Try.prog 47 #[leadV p root lv lo hi, pgV s] V (RdS V (LV : Int) ps)) := Lib.hid fun V hV => by
      have := trLeadRead hV ix hix root lv lo hi (by rw [hni]; exact hS.fit)
      rw [hqi, hni] at this
      try rw [hLV] at this
      exact this
    obtain ⟨ip, hip, hp0, hp1, hp2⟩ := info_parts infoInt8
    obtain ⟨n, hn⟩ : ∃ n, ps.length = n := ⟨_, rfl⟩
    have HN := Lib.hid hn
    have HML := Lib.hid hm
    have HH := Lib.hid (And.intro hsh (And.intro hD (And.intro hS (And.intro hnd (And.intro hml hl7)))))
    clear hrowW hshW hsv hkW hbd hp hI hSW h hsh hD hS hnd hix hqi hni hn hm
    unfold pgV leadV at *
    rw [hx] at d0 d1 d2 d3 d4
    go_enter Try.func57, Try.ntmps57
    go_wp2_with fail
    go_quiet ((go_at_call 79; exact Calls.quiet_of_same (HQ.out _)))
    go_upto_region 3 with fail
    go_cut [] from 8 (fun wx => Hid (SoM w S s B0 x p room N D root lv lo hi (ms ++ [(p : Int)]) wx))
    case first =>
      go_wp2_with fail
      have c1' : ((W.drewN nq).drew).cell? ⟨S, 1, none⟩ = some (.slice a m cap) := c1
      have x0' : ((W.drewN nq).drew).cell? ⟨x, 0, none⟩ = some (.int .i64 (p : Int)) := d0
      have hrow8 : ((W.drewN nq).drew).ownsRow B0 3 1 (.slice a m cap) m (cellsI ms) := HROW.out
      have hsz8 : B0 ≤ ((W.drewN nq).drew).heap.size := hB0
      have hSV : S < ((W.drewN nq).drew).heap.size := Nat.lt_of_lt_of_le hS0 hB0
      have cc8 : (((W.drewN nq).drew).alloc (.cells #[.int .i64 (p : Int)] 3)).cell? ⟨S, 1, none⟩ = some (.slice a m cap) := (World.cell?_of_block (a := ⟨S, 1, none⟩) (Lib.alloc_old ((W.drewN nq).drew) _ _ hSV)).trans c1
      have hgr8 := HG.out nq
      have hme8 := HM.out nq
      obtain ⟨V, hV⟩ : ∃ V, (W.drewN nq).drew = V := ⟨_, rfl⟩
      rw [hV] at c1' x0' hrow8 hsz8 hgr8 cc8 hme8
      clear hSV
      go_region_law (first
        | (refine step_append_lies _ (by rfl) _ _ 23 (by rfl) B0 3 ip _ 1 8 Try.underlying23 hip hp0 hp1 hp2 rfl (by omega) (.slice a m cap) m _ (by rfl) (hrow8.alloc _) ⟨V.heap.size, 0, none⟩ 1 1 [.int .i64 (p : Int)] (by rfl) (by rfl) (World.news_of_block (cs := #[.int .i64 (p : Int)]) (t := 3) (fr := (0, 0)) (heap_alloc_new V _)) (by simp [Value.oneCell']) (by omega) (by unfold maxLen; omega) (by omega) (by simp; omega) (V.heap.size + 1) (by simp) ?_; intro gg cap' w1 hown1 hgrow hat hlt1; obtain ⟨e0', ef⟩ := hgr8 w1 hgrow; have hmm := hme8 w1 gg cap' hgrow hown1))
      all_goals
        clear hgr8 hme8 hrow8
        go_wp2_with fail
        go_meet
        case rel => exact Lib.hid hmm
    case rest =>
      have HC := hcut
      clear hcut HM HG HQ HROW c0 c1 d0 d1 d2 d3 d4
      have HF := Lib.hid fun V (hk : KeptIn (· < wc.heap.size) wc V) => HC.out.facts hk
      obtain ⟨c0, d0, d1, d2, d3, d4⟩ := HC.out.facts (KeptIn.refl _ wc)
      have HSH : Hid (∀ V, KeptIn (· < wc.heap.size) wc V → IsSh V s room N D) := Lib.hid fun V hk => HC.out.choose_spec.2.2.1.old hk
      unfold pgV at HF c0
      go_upto_region 4 with fail
      go_cut [5, 6] from 8 (fun s5 s6 wx => ∃ y g cg : Nat, s5 = .pointer (some ⟨y, 0, none⟩) ∧ s6 = .int .i64 0 ∧ Hid (∃ v, SoF w S s B0 x y p g n cg room N D root lv lo hi LV ps v (ms ++ [(p : Int)]) wx))
      case first =>
        go_wp2_with fail
        go_region_held3 (fun w' => w'.cell? ⟨S, 0, none⟩ = some (.iface 28 (.pointer (some ⟨s, 0, none⟩))) ∧ w'.cell? ⟨x, 0, none⟩ = some (.int .i64 (p : Int)) ∧ w'.cell? ⟨x, 1, none⟩ = some (.bool root) ∧ w'.cell? ⟨x, 2, none⟩ = some (.int .i64 lv) ∧ w'.cell? ⟨x, 3, none⟩ = some (.int .u64 (lo : Int)) ∧ w'.cell? ⟨x, 4, none⟩ = some (.int .u64 (hi : Int)))
          (first | exact ⟨c0, d0, d1, d2, d3, d4⟩ | exact HF.out _ (KeptIn.refl _ _).drew | exact HF.out _ (((KeptIn.refl _ _).alloc (fun _ h => h) _).drew) | exact HF.out _ ((KeptIn.refl _ _).drew.go hk) | exact HF.out _ ((((KeptIn.refl _ _).alloc (fun _ h => h) _).drew).go hk) | exact HF.out _ (((KeptIn.refl _ _).drew.go hk).alloc (fun _ h => h) _) | exact HF.out _ ((((KeptIn.refl _ _).drew.go hk).alloc (fun _ h => h) _).setCell (Nat.not_lt.2 hk.size) _) | exact HF.out _ (((((KeptIn.refl _ _).drew.go hk).alloc (fun _ h => h) _).setCell (Nat.not_lt.2 hk.size) _).setCell (Nat.not_lt.2 hk.size) _) | exact HF.out _ ((((((KeptIn.refl _ _).alloc (fun _ h => h) _).drew).go hk).setCell (by simp) _).setCell (by simp) _))
          (first | (go_at_call 47; first | (refine (HRD.out _ (HSH.out wc.drew (KeptIn.refl _ _).drew)).mono ?_; rintro e V ⟨g, cg, rfl, hps, hg, hk, hty⟩; rw [HN.out]; unfold leafV) | (refine (HRD.out _ (HSH.out (wc.alloc (.cells #[.int .i64 0, .slice none 0 0] 27)).drew (((KeptIn.refl _ _).alloc (fun _ h => h) _).drew))).mono ?_; rintro e V ⟨g, cg, rfl, hps, hg, hk, hty⟩; have hb9 := (show BoxL wc.heap.size 0 none 0 0 (wc.alloc (.cells #[.int .i64 0, .slice none 0 0] 27)).drew from heap_alloc_new wc _).kept (W' := V) hk (Nat.lt_of_lt_of_le (Nat.lt_succ_self _) (Nat.le_of_eq (World.size_alloc _ _).symm)); have e0 := hb9.c0; have e1 := hb9.c1; have g0 := hb9.f0; have g1 := hb9.f1; rw [HN.out]; unfold leafV)))
        · go_wp2_with fail
          go_meet
          case rel => exact ⟨_, _, _, rfl, rfl, Lib.hid (so_read2 HC.out ((KeptIn.refl _ wc).drew.go hk) hps hty.1 HN.out)⟩
        · go_wp2_with fail
          go_meet
          case rel => exact ⟨_, _, _, rfl, rfl, Lib.hid (so_read HC.out (((KeptIn.refl _ wc).alloc (fun _ h => h) _).drew) rfl (show BoxL wc.heap.size 0 none 0 0 (wc.alloc (.cells #[.int .i64 0, .slice none 0 0] 27)).drew from heap_alloc_new wc _) hk hg hps hty.1 HN.out)⟩
      case rest =>
        obtain ⟨y, g, cg, rfl, rfl, hq⟩ := hcut
        have HQ := hq
        clear hq HC HF HSH c0 d0 d1 d2 d3 d4 HRD
        obtain ⟨v2, hF⟩ := HQ.out
        have y0 := hF.leaf.c0
        have y1 := hF.leaf.c1
        have HF := Lib.hid hF
        clear HQ hF
        have HI0 : Hid (SoK w S s B0 x y p g n cg room N D root lv lo hi LV ps qs l g0 (ms ++ [(p : Int)]) 0 wc) := Lib.hid ⟨v2, [], qs, [], g0, Nat.zero_le _, rfl, rfl, ⟨rfl, rfl⟩, HH.out.2.2.1.body, by simpa [ofP] using HF.out⟩
        have hn15 : n ≤ 15 := by rw [← HN.out]; exact HX.out.1
        go_wp2_with fail
        go_loopw [7, 53] (fun _ i wr => ∃ (j : Nat) (W : World), W = wr ∧ i = .int .i64 (j : Int) ∧ Hid (SoK w S s B0 x y p g n cg room N D root lv lo hi LV ps qs l g0 (ms ++ [(p : Int)]) j W)) (fun _ i _ => n - (intOf i).toNat)
        case atStart => exact ⟨0, _, rfl, rfl, HI0⟩
        case round =>
          obtain ⟨j, W, rfl, rfl, HJ⟩ := hrel
          clear HI0 y0 y1 HF
          by_cases hlt : j < n
          · obtain ⟨t1, t2, t3, t4⟩ := rg_idx j n hlt (by omega)
            clear t3
            obtain ⟨v3, ms2, ps', q2, g', hF, hkid, hk15, hnd2, hml2, hnext⟩ := HJ.out.kid HH.out.2.2.1 hl7 hN HN.out hlt (by
              have := HH.out.2.2.2.1
              rw [List.append_assoc]
              exact this) (by have := HH.out.2.2.2.2.1; have := HML.out; rw [List.length_append, List.length_singleton]; omega)
            have hhi2 := highOf_lt ps j hi hF.isps.fits HX.out.2
            have y0 := hF.leaf.c0
            have y1 := hF.leaf.c1
            have y2 := hF.lead.c4
            have HCH := Lib.hid (HCT.out j g cg W (by rw [HN.out]; exact hlt) hF.isps)
            rw [HN.out] at HCH
            have HG : Hid (∀ V, KeptIn (· < W.heap.size) W V → Calls Try.prog 57 #[.pointer (some ⟨S, 0, none⟩), .agg #[.int .i64 (valAt ps j : Int), .bool false, .int .i64 (l : Int), .int .u64 (keyAt ps j : Int), .int .u64 (highOf ps j hi : Int)]] V (SoP V S s B0 (ms2 ++ ofP (valAt ps j :: g')))) := Lib.hid fun V hk => by
              have hV := hF.old hk
              exact ih hV.sh hV.dS hV.sv hkid (by omega) hk15 hhi2 hnd2 hml2
            have HNX : Hid (∀ V W' v', KeptIn (· < W.heap.size) W V → SvAt W' S s B0 v' (ms2 ++ ofP (valAt ps j :: g')) → KeptIn (SdY V S B0) V W' → SoK w S s B0 x y p g n cg room N D root lv lo hi LV ps qs l g0 (ms ++ [(p : Int)]) (j + 1) W') := Lib.hid fun V W' v' h1 h2 h3 => hnext v' W' ((hF.old h1).go h3 h2)
            clear hkid hk15 hnd2 hml2 hnext hhi2 hF HJ
            obtain ⟨kk, hkk⟩ : ∃ kk, keyAt ps j = kk := ⟨_, rfl⟩
            obtain ⟨vv, hvv⟩ : ∃ vv, valAt ps j = vv := ⟨_, rfl⟩
            obtain ⟨hh, hhe⟩ : ∃ hh, highOf ps j hi = hh := ⟨_, rfl⟩
            rw [hkk, hvv, hhe] at HG HCH
            rw [hvv] at HNX
            clear hkk hvv hhe
            go_wp2_with (first
              | (go_at_call 50; refine HCH.out.mono ?_; rintro e V2 ⟨rfl, hk2⟩; have HCB := Lib.hid (HG.out V2 hk2); have HK2 := Lib.hid hk2; clear hk2)
              | (go_at_call 57; refine HCB.out.mono ?_; rintro e V3 ⟨v4, rfl, hs4, hk4⟩; have HO := Lib.hid (HNX.out V2 V3 v4 HK2.out hs4 hk4); clear hs4 hk4))
            go_roundw
            case rel => exact ⟨j + 1, _, rfl, congrArg (Value.int .i64) (rg_succ j), HO⟩
            case measure => simp only [intOf]; exact rg_meas j n hlt
          · obtain ⟨u1, u2⟩ := rg_ge hlt
            have HE := Lib.hid (HJ.out.fin HN.out hlt)
            clear HJ
            go_wp2_with fail
            go_ret
            exact HE.out

end Go.Proofs.Ytdbohcdjamhdjaa
/- Package tree's Reach, Check over a sound tree. -/
set_option linter.unusedVariables false
namespace Go.Proofs.Ytdbohcdjamhdjaa
open Go.RowKit

theorem ofP_nodup {l : List Nat} (h : l.Nodup) : (ofP l).Nodup := by
  unfold ofP List.Nodup
  rw [List.pairwise_map]
  exact h.imp fun hab e => hab (Int.ofNat.inj e)

/-- The pages of a tree, and no error. -/
def RchS (w : World) (ks : List Int) (e : Ending) (w' : World) : Prop := ∃ v, e = .returned (.tuple #[v, .int .i64 0]) ∧ w'.ownsRow w.heap.size 3 1 v ks.length (cellsI ks) ∧ KeptIn (· < w.heap.size) w w'

theorem so_end {w W V V2 : World} {S s B0 : Nat} {v : Value} {ks : List Int} (hkW : KeptIn (· < w.heap.size) w W) (hk : KeptIn (· < W.heap.size) W V) (hS : w.heap.size = S) (hB : S < B0) (hBW : B0 = W.heap.size) (hsv : SvAt V2 S s B0 v ks) (h2 : KeptIn (SdY V S B0) V V2) : RchS w ks (.returned (.tuple #[v, .int .i64 0])) V2 := by
  refine ⟨v, rfl, row_weakenI hsv.row (by omega), (hkW.go hk).trans (h2.mono fun k hk2 => ?_)⟩
  have hz : w.heap.size ≤ V.heap.size := (hkW.go hk).size
  exact ⟨by omega, by omega, .inl (by omega)⟩

set_option maxRecDepth 100000 in
set_option maxHeartbeats 4000000 in
theorem trReach {N : List Nd} (hN : N.length ≤ 511) {w : World} {s room : Nat} {D : Nat → Prop} (h : IsSh w s room N D) {root l : Nat} {qs : Pairs} {g : List Nat} (ht : TreeG N root l qs g) (hnd : g.Nodup) :
    Calls Try.prog 41 #[pgV s, .int .i64 (root : Int)] w (RchS w (ofP g)) := by
  have hlen : g.length ≤ 511 := Nat.le_trans (nodup_le N.length g hnd ht.pages) hN
  rcases ht with ⟨rfl, rfl, rfl, _⟩ | ⟨ps, g', hS, hl7, h15, rfl⟩
  · have HE : Hid (RchS w (ofP []) (.returned (.tuple #[.slice none 0 0, .int .i64 0])) w) := Lib.hid ⟨_, rfl, ⟨rfl, .inl ⟨rfl, rfl⟩⟩, KeptIn.refl _ _⟩
    unfold pgV
    clear h hnd hlen
    go_enter Try.func41, Try.ntmps41
    go_wp2_with fail
    go_ret2
    exact HE.out
  · have hpg := nodeOf_le hS.node
    have p0 : ((root : Int) == 0) = false := by rw [beq_eq_false_iff_ne]; omega
    have p1 : ¬ ((root : Int) = 0) := by omega
    obtain ⟨W, hW⟩ : ∃ W, w.alloc (.cells #[pgV s, .slice none 0 0, .int .i64 0] 125) = W := ⟨_, rfl⟩
    have hkW : KeptIn (· < w.heap.size) w W := by rw [← hW]; exact (KeptIn.refl _ w).alloc (fun _ h => h) _
    have hbx : W.heap[w.heap.size]? = some (.cells #[pgV s, .slice none 0 0, .int .i64 0] 125 (0, 0)) := by rw [← hW]; exact heap_alloc_new w _
    have hWs : W.heap.size = w.heap.size + 1 := by rw [← hW]; simp
    obtain ⟨S, hSe⟩ : ∃ S, w.heap.size = S := ⟨_, rfl⟩
    obtain ⟨B0, hB0⟩ : ∃ B0, W.heap.size = B0 := ⟨_, rfl⟩
    have hSB : S < B0 := by omega
    have HM : Hid (∀ V, KeptIn (· < W.heap.size) W V → Calls Try.prog 57 #[.pointer (some ⟨S, 0, none⟩), leadV root true 0 0 18446744073709551615] V (SoP V S s B0 (ofP (root :: g')))) := Lib.hid fun V hk => by
      have hsv0 : SvAt W S s B0 (.slice none 0 0) [] := ⟨by rw [← hSe]; exact hbx, ⟨rfl, .inl ⟨rfl, rfl⟩⟩, hSB, Nat.le_of_eq hB0.symm⟩
      have := trSound hN s room ((h.old hkW).old hk) (fun k hk => by rw [← hSe]; exact h.lt k hk) (hsv0.old hk) hS hl7 h15 (by decide) (by simpa using ofP_nodup hnd) (by simp at hlen ⊢; omega)
      rw [List.nil_append] at this
      exact this
    have HE : Hid (∀ V V2 v, KeptIn (· < W.heap.size) W V → SvAt V2 S s B0 v (ofP (root :: g')) → KeptIn (SdY V S B0) V V2 → RchS w (ofP (root :: g')) (.returned (.tuple #[v, .int .i64 0])) V2) := Lib.hid fun V V2 v h1 h2 h3 => so_end hkW h1 hSe hSB hB0.symm h2 h3
    have HT := Lib.hid fun V => trToRoot root V
    have HW := Lib.hid hW
    have HSE := Lib.hid hSe
    obtain ⟨ks, hks⟩ : ∃ ks, ofP (root :: g') = ks := ⟨_, rfl⟩
    rw [hks] at HM HE ⊢
    clear hks hW hSe
    clear h hnd hlen hS hkW hbx hWs hpg hB0
    unfold pgV leadV at *
    go_enter Try.func41, Try.ntmps41
    go_wp2_with (first
      | (go_at_call 46; rw [HW.out, HSE.out]; refine (HT.out _).mono ?_; rintro e V ⟨rfl, hk⟩; have HC := Lib.hid (HM.out V hk); have HK := Lib.hid hk; clear hk)
      | (go_at_call 57; refine HC.out.mono ?_; rintro e V2 ⟨v4, rfl, hs4, hk4⟩; have HR := Lib.hid (HE.out V V2 v4 HK.out hs4 hk4); have c1 : V2.cell? ⟨S, 1, none⟩ = some v4 := (cell_of_row _ _ 1 _ _ _ hs4.box).trans rfl; have c2 : V2.cell? ⟨S, 2, none⟩ = some (.int .i64 0) := (cell_of_row _ _ 2 _ _ _ hs4.box).trans rfl; clear hs4 hk4))
    go_ret2
    exact HR.out

theorem trCheck {N : List Nd} (hN : N.length ≤ 511) {w : World} {s room : Nat} {D : Nat → Prop} (h : IsSh w s room N D) {root l : Nat} {qs : Pairs} {g : List Nat} (ht : TreeG N root l qs g) (hnd : g.Nodup) :
    Calls Try.prog 31 #[pgV s, .int .i64 (root : Int)] w fun e w' => e = .returned (.int .i64 0) ∧ KeptIn (· < w.heap.size) w w' := by
  have HC := Lib.hid (trReach hN h ht hnd)
  unfold pgV at *
  clear h ht hnd
  go_enter Try.func31, Try.ntmps31
  go_wp2_with (go_at_call 41; refine HC.out.mono ?_; rintro e V ⟨v, rfl, hr, hk⟩)
  go_ret
  exact ⟨rfl, hk⟩

end Go.Proofs.Ytdbohcdjamhdjaa
