import Derived.Test.YtdbohcdjamhdjaaRq9W
/- The reference of layer 9 (tierceref09): Refs over whatever nodes, the walk. -/
set_option linter.unusedVariables false
namespace Go.Proofs.Ytdbohcdjamhdjaa
open Go.RowKit

theorem rq_idx {j m : Nat} (h : j < m) (hm : m ≤ 1000) : (0 : Int) ≤ (j : Int) ∧ (j : Int) < (m : Int) := by omega
theorem rq_page {ix p nn n1 : Nat} (h : ix + 1 = p) (hi : ix < nn) (hn : nn ≤ 511) (e : nn + 1 = n1) : (p : Int) - 1 = (ix : Int) ∧ wrap64 (ix : Int) = (ix : Int) ∧ (0 : Int) ≤ (ix : Int) ∧ (ix : Int) < (nn : Int) ∧ (0 : Int) ≤ (p : Int) ∧ (p : Int) < (n1 : Int) := by
  refine ⟨by omega, by unfold wrap64; omega, by omega, by omega, by omega, by omega⟩
theorem rq_len {nn n1 : Nat} (h : nn + 1 = n1) (hn : nn ≤ 511) : (nn : Int) + 1 = (n1 : Int) ∧ wrap64 (n1 : Int) = (n1 : Int) := ⟨by omega, by unfold wrap64; omega⟩

theorem sh_node {V : World} {s H cap ix : Nat} {NA : List NdA} {la : Option Addr} (hsh : IsShA V s H NA) (hla : V.cell? ⟨s, 0, none⟩ = some (.slice la NA.length cap)) (hix : ix < NA.length) : ∃ b off, la = some ⟨b, off, none⟩ ∧ ∃ a c, V.cell? ⟨b, off + ix * 2, none⟩ = some (.int .i64 NA[ix].1) ∧ V.cell? ⟨b, off + ix * 2 + 1, none⟩ = some (.slice a NA[ix].2.length c) ∧ PsH V H a NA[ix].2 := by
  obtain ⟨la', cap', h1, h2⟩ := hsh.mem
  have e := h1.symm.trans hla
  simp only [Option.some.injEq, Value.slice.injEq] at e
  obtain ⟨rfl, _, rfl⟩ := e
  obtain ⟨b, off, rfl, _, hi⟩ := h2 (by omega)
  obtain ⟨a, c, q1, q2, q3⟩ := hi ix hix
  exact ⟨b, off, rfl, a, c, q1, q2, q3⟩

/-- What stands in the pairs' loop. -/
structure Rt9 (w : World) (sb n1 : Nat) (S : Nat → Bool) (C : Int → Nat) (T B0 : Nat) (pv qv : Value) (g : List Int) (qs : Pairs) (y : Nat) (L : Int) (a2 : Option Addr) (np c2 : Nat) (ps : Pairs) (u : Nat) (v : Value) (W : World) : Prop where
  st : Rr9 w sb n1 S (fun q => C q + vls (ps.take u) q) v W
  lk : LkAt W T B0 pv qv g qs
  bx : BoxL y L a2 np c2 W
  pa : IsPs W a2 ps
section
variable {w W W' : World} {sb n1 T B0 y np c2 u : Nat} {S : Nat → Bool} {C : Int → Nat} {pv qv v v' : Value} {g : List Int} {qs ps : Pairs} {L : Int} {a2 : Option Addr}
theorem Rt9.add (h : Rt9 w sb n1 S C T B0 pv qv g qs y L a2 np c2 ps u v W) (hu : u < ps.length) {x : Nat} (hx : wrap64 ((valAt ps u : Nat) : Int) = (x : Int)) (hk : KeptIn (· < W.heap.size) W W') (hrow : W'.ownsRow W.heap.size 42 2 v' (enE (cnUp (fun q => C q + vls (ps.take u) q) (x : Int))).length (cellsE9 (enE (cnUp (fun q => C q + vls (ps.take u) q) (x : Int))))) :
    Rt9 w sb n1 S C T B0 pv qv g qs y L a2 np c2 ps (u + 1) v' W' := by
  refine ⟨(h.st.add hk hrow).same fun q => ?_, h.lk.old hk, (hk.block y (Array.getElem?_eq_some_iff.1 h.bx).1).trans h.bx, h.pa.old hk⟩
  rw [← hx, ← cn_pair C ps u hu q]
  unfold kv9
  rw [valAt_get hu]
end
theorem rt_val {L : Int} {ps : Pairs} (h : goodN L ps = true) (h0 : 0 < L) {u : Nat} (hu : u < ps.length) : ∃ x : Nat, valAt ps u = x ∧ ((0 : Int) ≤ (x : Int) ∧ (x : Int) < 512) ∧ wrap64 (x : Int) = (x : Int) ∧ IntKind.i64.wrap (x : Int) = (x : Int) := by
  have := good_vals h (by omega) u hu
  refine ⟨_, rfl, ⟨by omega, by omega⟩, by unfold wrap64; omega, IntWalk.i64_in _ (by omega)⟩
theorem rt_low {L : Int} {ps : Pairs} (h : goodN L ps = true) (h0 : ¬ 0 < L) : L = 0 := by
  unfold goodN countOk at h
  simp only [Bool.and_eq_true, decide_eq_true_eq] at h
  omega
theorem rt_none {ps : Pairs} {np u : Nat} (h : 0 < ps.length) (hn : ps.length = np) (h1 : u = 0) (hu : ¬ u < np) : False := by omega
/-- Behind a page that wasn't seen. -/
theorem Rt9.fin {w W : World} {NA : List NdA} {rs rs1 g : List Int} {sb n1 T B0 y np c2 u kk p ix : Nat} {pv qv v : Value} {qs ps : Pairs} {L : Int} {a2 : Option Addr}
    (h : Rt9 w sb n1 (fun q => if q = p then true else seP NA rs g kk (q : Int)) (cnB (N9 NA) rs1 (seP NA rs g kk)) T B0 pv qv g qs y L a2 np c2 ps u v W)
    (hnd : NA[ix]? = some (L, ps)) (hgd : gdA (L, ps)) (hp : ix + 1 = p) (hgk : g[kk]? = some (p : Int)) (hs : seP NA rs g kk (p : Int) = false) (hu : (L = 0 ∧ u = 0) ∨ (L ≠ 0 ∧ u = ps.length)) :
    Rp9 w NA rs rs1 g sb n1 T B0 pv qv qs (kk + 1) v W := by
  obtain ⟨hkk, hg⟩ := List.getElem?_eq_some_iff.1 hgk
  obtain ⟨hix, hnn⟩ := List.getElem?_eq_some_iff.1 hnd
  have e : ∀ q, seP NA rs g (kk + 1) q = (seP NA rs g kk q || decide (q = ((ix + 1 : Nat) : Int))) := fun q => by rw [seP_succ hkk, hg, hp]
  refine ⟨(h.st.sameS fun q => ?_).same fun q => ?_, h.lk⟩
  · rw [e, hp]
    by_cases hq : q = p
    · subst hq; simp
    · rw [if_neg hq, decide_eq_false (by omega), Bool.or_false]
  · unfold cnB
    have hi : ix < (N9 NA).length := by rw [N9, List.length_map]; exact hix
    rw [cnP_congr _ e, cnP_add _ _ hi (by rw [hp]; exact hs), cn_node hix (by rw [hnn]; exact hgd), hnn]
    rcases hu with ⟨h0, rfl⟩ | ⟨h0, rfl⟩
    · rw [if_pos (show (L, ps).1 = 0 from h0), List.take_zero]
      simp [vls]
    · rw [if_neg (show ¬ (L, ps).1 = 0 from h0), List.take_length]
      dsimp only
      omega

theorem rt_np {np : Nat} (h : np ≤ 1000) : (np : Int) ≤ 1000 := by omega
theorem rt_ge {u np : Nat} (h : ¬ u < np) : ¬ (u : Int) < (np : Int) := by omega
theorem rt_meas {u np : Nat} (h : u < np) : np - ((u : Int) + 1).toNat < np - ((u : Int)).toNat := by omega
theorem rt_bound {x y u np : Nat} {ps : Pairs} (h1 : x ≤ 8000) (h2 : y ≤ (ps.take u).length) (hn : ps.length = np) (h3 : np ≤ 1000) : x + y ≤ 100000 := by
  rw [List.length_take] at h2
  omega

set_option maxRecDepth 100000 in
set_option maxHeartbeats 8000000 in
theorem r9RefsG {NA : List NdA} {w : World} {s H cap cr : Nat} {la a : Option Addr} {rs : List Int} (hsh : IsShA w s H NA) (hla : w.cell? ⟨s, 0, none⟩ = some (.slice la NA.length cap)) (hr : IntsL w a rs) (hrl : rs.length ≤ 100)
    {R : Bool} (hR : R = true ↔ ∀ r ∈ rs, (tsG NA r).isSome = true) :
    Calls Try.prog 10 #[.slice la NA.length cap, .slice a rs.length cr] w (RsG w (enE (cnB (N9 NA) rs (inT NA rs))) R) := by
  have hN := hsh.len
  obtain ⟨nn, hnn⟩ : ∃ nn, NA.length = nn := ⟨_, rfl⟩
  obtain ⟨n1, hn1⟩ : ∃ n1, nn + 1 = n1 := ⟨_, rfl⟩
  obtain ⟨m, hm⟩ : ∃ m, rs.length = m := ⟨_, rfl⟩
  have hmI : (m : Int) ≤ 100 := by omega
  obtain ⟨B, hB⟩ : ∃ B, w.heap.size = B := ⟨_, rfl⟩
  obtain ⟨sb, hsb⟩ : ∃ sb, B + 1 = sb := ⟨_, rfl⟩
  obtain ⟨W0, hW0⟩ : ∃ W0, (w.alloc (.cells #[] 42)).alloc (.cells (blS n1 fun _ => false).toArray 4) = W0 := ⟨_, rfl⟩
  have h1 := AdJ.start w
  have hJ0 : Ro9 w NA rs sb n1 0 (.slice (some ⟨B, 0, none⟩) 0 0) W0 := by
    have e0 : enE (cnB (N9 NA) (rs.take 0) (inT NA (rs.take 0))) = [] := enE_none fun q => by
      unfold cnB
      rw [cnP_none _ (fun z => by rw [List.take_zero]; rfl), List.take_zero]
      rfl
    refine ⟨fun r hr' => by simp at hr', ?_, ?_, ?_, by omega⟩
    · rw [← hW0, ← hsb, ← hB]
      have := heap_alloc_new (w.alloc (.cells #[] 42)) (.cells (blS n1 fun _ => false).toArray 4)
      rw [World.size_alloc] at this
      exact this
    · rw [e0, ← hW0, ← hB]
      exact rowS_block h1.1 fun g e => Lib.alloc_old _ _ _ (rowS_lt h1.1 g e).2
    · rw [← hW0]
      exact h1.2.alloc (fun k hk => hk) _
  have HJ0 := Lib.hid hJ0
  have HLK : Hid (∀ V r, KeptIn (· < w.heap.size) w V → Calls Try.prog 27 #[.slice la nn cap, .int .i64 r] V (LookG V (tsG NA r))) := Lib.hid fun V r hk => by
    have := r8LookG (hsh.old hk) ((World.cell?_of_block (a := ⟨s, 0, none⟩) (hk.block s (Nat.lt_of_lt_of_le hsh.ds hsh.le))).trans hla) r
    rw [hnn] at this
    exact this
  have HSH := Lib.hid (And.intro hsh (And.intro hla (And.intro hr (And.intro hrl (And.intro hR (And.intro hnn hn1))))))
  have HM := Lib.hid hm
  have HW := Lib.hid hW0
  have HB := Lib.hid (And.intro hB hsb)
  obtain ⟨e2, e3⟩ := rq_len hn1 (by omega)
  have hmk := mkSeen9 n1 (by omega)
  obtain ⟨RES, hRES⟩ : ∃ RES, enE (cnB (N9 NA) rs (inT NA rs)) = RES := ⟨_, rfl⟩
  have HRES := Lib.hid hRES
  rw [hm, hnn, hRES]
  clear hsh hla hr hrl hR hnn hn1 hm hW0 hB hsb hJ0 h1 hN hRES
  go_enter Try.func10, Try.ntmps10
  go_wp2_with fail
  rw [HW.out]
  try simp only [World.size_alloc]
  simp only [HB.out.1]
  try simp only [HB.out.2]
  clear e2 e3 hmk
  go_loopw [4, 5, 6, 8, 9, 10, 11, 12] (fun r4 r5 o i _ _ _ _ wr => ∃ (j : Nat) (W : World) (v0 : Value), W = wr ∧ v0 = o ∧ r4 = .slice none 0 0 ∧ r5 = .bool false ∧ j ≤ m ∧ i = .int .i64 (j : Int) ∧ Hid (Ro9 w NA rs sb n1 j v0 W)) (fun _ _ _ i _ _ _ _ _ => m - (RowKit.intOf i).toNat)
  case atStart => exact ⟨0, _, _, rfl, rfl, rfl, rfl, Nat.zero_le _, rfl, HJ0⟩
  case round =>
    obtain ⟨j, W, v0, rfl, rfl, rfl, rfl, hj, rfl, HJ⟩ := hrel
    clear HJ0
    by_cases hlt : j < m
    · obtain ⟨d0, d1⟩ := rq_idx hlt (by omega)
      have hjl : j < rs.length := by rw [HM.out]; exact hlt
      have HJM := Lib.hid hlt
      obtain ⟨gk, go9, rfl, hgl, hgc⟩ := HSH.out.2.2.1.cells (by omega)
      have f0 := hgc j hjl
      obtain ⟨r, hr⟩ : ∃ r, rs[j] = r := ⟨_, rfl⟩
      have hrd : rs.getD j 0 = r := by rw [List.getD_eq_getElem?_getD, List.getElem?_eq_getElem hjl]; exact hr
      rw [hrd] at f0
      have HRC : Hid (∀ V, KeptIn (· < w.heap.size) w V → V.cell? ⟨gk, go9 + j, none⟩ = some (.int .i64 r)) := Lib.hid fun V hk => (World.cell?_of_block (a := ⟨gk, go9 + j, none⟩) (hk.block gk hgl)).trans f0
      have f1 := HRC.out W HJ.out.st.kept
      have htk : rs.take (j + 1) = rs.take j ++ [r] := by rw [List.take_add_one, List.getElem?_eq_getElem hjl, hr]; rfl
      have HRR := Lib.hid (And.intro (show r ∈ rs by rw [← hr]; exact List.getElem_mem hjl) htk)
      have HC := Lib.hid (HLK.out W r HJ.out.st.kept)
      have HKW := Lib.hid HJ.out.st.kept
      clear hgc f0 hr hrd htk hjl hgl hlt
      obtain ⟨F, hF⟩ : ∃ F, tsG NA r = F := ⟨_, rfl⟩
      rw [hF] at HC
      have HF := Lib.hid hF
      clear hF
      cases F with
      | none =>
        go_wp2_with (first | (go_at_call 27; refine HC.out.mono ?_; rintro e V ⟨T, B0, rfl, ⟨⟨pv, qv, hb⟩, -, -⟩, -, hk⟩; have z0 := (bad_cell hb).1; have HE := Lib.hid (HKW.out.go hk); clear hb hk))
        have HRF : Hid (R = false) := Lib.hid (by
          cases hRR : R with
          | false => rfl
          | true =>
            have := HSH.out.2.2.2.2.1.1 hRR r HRR.out.1
            rw [HF.out] at this
            cases this)
        go_ret2
        rw [HRF.out]
        exact ⟨rfl, HE.out⟩
      | some g =>
        obtain ⟨gl, hgl⟩ : ∃ gl, g.length = gl := ⟨_, rfl⟩
        have hgG : gG NA r = g := by unfold gG; rw [HF.out]; rfl
        have HG := Lib.hid (And.intro (tsG_ok HF.out) (tsG_all HF.out))
        have HGL := Lib.hid hgl
        have HEN : Hid (∀ (T B0 : Nat) (pv qv : Value) (qs : Pairs) (kk : Nat) (v1 : Value) (W2 : World), kk = gl → Rp9 w NA (rs.take j) (rs.take (j + 1)) g sb n1 T B0 pv qv qs kk v1 W2 → Ro9 w NA rs sb n1 (j + 1) v1 W2) := Lib.hid fun T B0 pv qv qs kk v1 W2 e h => by
          have h9 : ∀ q, seP NA (rs.take j) g kk q = inT NA (rs.take (j + 1)) q := fun q => by
            rw [e, ← hgl, ← hgG, seP_all, HRR.out.2]
          refine ⟨fun r2 hr2 => ?_, (h.st.sameS fun q => h9 _).same fun q => ?_⟩
          · rw [HRR.out.2] at hr2
            rcases List.mem_append.1 hr2 with hr2 | hr2
            · exact HJ.out.all r2 hr2
            · rw [List.mem_singleton.1 hr2, HF.out]; rfl
          · unfold cnB
            rw [cnP_congr _ h9]
        clear hgl hgG
        by_cases hr0 : r = 0
        · have HP1 : Hid (∀ (T B0 : Nat) (pv qv : Value) (qs : Pairs) (V : World), KeptIn (· < W.heap.size) W V → LkAt V T B0 pv qv g qs → Rp9 w NA (rs.take j) (rs.take (j + 1)) g sb n1 T B0 pv qv qs 0 v0 V) := Lib.hid fun T B0 pv qv qs V hk hat => by
            refine ⟨((HJ.out.st.old hk).sameS fun q => (seP_zero _ _ _ _).symm).same fun q => ?_, hat⟩
            unfold cnB
            rw [HRR.out.2, hr0, cn_zero, cnP_congr _ (seP_zero NA (rs.take j) g)]
          subst hr0
          go_wp2_with (first | (go_at_call 27; refine HC.out.mono ?_; rintro e V ⟨T, B0, rfl, ⟨pv, qv, qs, hat, hql, -⟩, hTn, hk⟩; obtain ⟨ap, pc, hpe⟩ := row_sliceI hat.prow; rw [HGL.out] at hpe; subst hpe; have z0 := hat.c2; have z1 := HRC.out V (HKW.out.go hk); have HP0 := Lib.hid (HP1.out T B0 _ qv qs V hk hat); have HTN := Lib.hid hTn; clear hat hk hTn))
          clear z0 z1 f1
          have HQ0 : Hid (Rp9 w NA (rs.take j) (rs.take (j + 1)) g sb n1 T B0 (.slice ap gl pc) qv qs 0 v0 V) := HP0
          have hglI : (gl : Int) ≤ 511 := by have h9 := HG.out.1.len; have h10 := HGL.out; have h11 := HSH.out.1.len; omega
          clear HP0
          go_loopw [6, 10, 11, 12] (fun o k _ _ wr => ∃ (kk : Nat) (W : World) (v1 : Value), W = wr ∧ v1 = o ∧ kk ≤ gl ∧ k = .int .i64 (kk : Int) ∧ Hid (Rp9 w NA (rs.take j) (rs.take (j + 1)) g sb n1 T B0 (.slice ap gl pc) qv qs kk v1 W)) (fun _ k _ _ _ => gl - (RowKit.intOf k).toNat)
          case atStart => exact ⟨0, _, _, rfl, rfl, Nat.zero_le _, rfl, HQ0⟩
          case round =>
            obtain ⟨kk, W2, v1, rfl, rfl, hkk, rfl, HP⟩ := hrel
            clear HQ0
            have t0 := HP.out.lk.c0
            by_cases hlt2 : kk < gl
            · obtain ⟨d5, d6⟩ := rq_idx hlt2 (by have h9 := HG.out.1.len; have := HGL.out; have := HSH.out.1.len; omega)
              have HKM := Lib.hid hlt2
              have hgl2 : kk < g.length := by rw [HGL.out]; exact hlt2
              obtain ⟨ix, hix, hpx, hgd⟩ := HG.out.2 g[kk] (List.getElem_mem hgl2)
              obtain ⟨p, hp⟩ : ∃ p, ix + 1 = p := ⟨_, rfl⟩
              rw [hp] at hpx
              have hI : IntsL W2 ap g := by
                have h9 := HP.out.lk.prow
                rw [← HGL.out] at h9
                exact rowIntsL h9 (by unfold maxLen; have := HG.out.1.len; have := HSH.out.1.len; omega)
              obtain ⟨bp, op, hap, hbp, hcp⟩ := hI.cells (by omega)
              have y0 := hcp kk hgl2
              rw [show g.getD kk 0 = (p : Int) by rw [List.getD_eq_getElem?_getD, List.getElem?_eq_getElem hgl2]; exact hpx] at y0
              obtain ⟨b, off, hlae, a2, c2, n1c, n2c, n3⟩ := sh_node (HSH.out.1.old HP.out.st.kept) ((World.cell?_of_block (a := ⟨s, 0, none⟩) (HP.out.st.kept.block s (Nat.lt_of_lt_of_le HSH.out.1.ds HSH.out.1.le))).trans HSH.out.2.1) hix
              obtain ⟨L, hL⟩ : ∃ L, NA[ix].1 = L := ⟨_, rfl⟩
              obtain ⟨ps, hps⟩ : ∃ ps, NA[ix].2 = ps := ⟨_, rfl⟩
              obtain ⟨np, hnp⟩ : ∃ np, ps.length = np := ⟨_, rfl⟩
              rw [hL] at n1c
              rw [hps, hnp] at n2c
              rw [hps] at n3
              obtain ⟨y, hy⟩ : ∃ y, W2.heap.size = y := ⟨_, rfl⟩
              obtain ⟨X1, hX1⟩ : ∃ X1, W2.alloc (.cells #[.int .i64 L, .slice a2 np c2] 27) = X1 := ⟨_, rfl⟩
              have hk1 : KeptIn (· < W2.heap.size) W2 X1 := by rw [← hX1]; exact (KeptIn.refl _ W2).alloc (fun _ h => h) _
              have hbl : BoxL y L a2 np c2 X1 := by rw [← hX1, ← hy]; exact BoxL.new W2 L a2 np c2
              have HPX := Lib.hid (HP.out.old hk1)
              have HBL := Lib.hid (And.intro hbl (And.intro (n3.1.old hk1) n3.2))
              have t1 := HPX.out.lk.c0
              have y1 := (World.cell?_of_block (a := ⟨bp, op + kk, none⟩) (hk1.block bp hbp)).trans y0
              obtain ⟨s9, fr9⟩ := HPX.out.st.cell (i := p) (by have := HSH.out.2.2.2.2.2.1; have := HSH.out.2.2.2.2.2.2; omega)
              have hnd9 : NA[ix]? = some (L, ps) := by rw [List.getElem?_eq_getElem hix, ← hL, ← hps]
              have hgk9 : g[kk]? = some (p : Int) := by rw [List.getElem?_eq_getElem hgl2, hpx]
              have hgd9 : gdA (L, ps) := by rw [← hL, ← hps]; exact hgd
              have HNX := Lib.hid (And.intro hnd9 (And.intro hgk9 (And.intro hgd9 (And.intro hp hnp))))
              have hnp1 : np ≤ 1000 := by have := HSH.out.1.small ix hix; rw [hps, hnp] at this; exact this
              have hixn : ix < nn := by rw [← HSH.out.2.2.2.2.2.1]; exact hix
              obtain ⟨i3, i6, i4, i5, s0, s1⟩ := rq_page hp hixn (by have := HSH.out.2.2.2.2.2.1; have := HSH.out.1.len; omega) HSH.out.2.2.2.2.2.2
              subst hap hlae
              obtain ⟨sv, hsv⟩ : ∃ sv, seP NA (rs.take j) g kk (p : Int) = sv := ⟨_, rfl⟩
              rw [hsv] at s9
              cases sv with
              | true =>
                have HAG := Lib.hid (HPX.out.again hgl2 (by rw [hpx]; exact hsv))
                clear HNX hlt2 hgl2 hix hpx hgd hp hI hbp hcp n3 hL hps hnp hk1 hbl hixn hsv HPX hnd9 hgk9 hgd9 fr9
                go_wp2_with fail
                clear i3 i6
                go_roundw
                case rel => exact ⟨kk + 1, _, _, rfl, rfl, by have := HKM.out; omega, by go_num, HAG⟩
                case measure => have := HKM.out; simp only [RowKit.intOf]; omega
              | false =>
                obtain ⟨hmk, hmk2⟩ := HPX.out.st.mark p
                have hlk2 := HPX.out.lk.but HPX.out.st.seen hmk2
                have hb2 : BoxL y L a2 np c2 (X1.setCell ⟨sb, p, none⟩ (.bool true)) := (hmk2.block y (fun e => by
                  have h1 := HPX.out.st.seen
                  have h2 := HBL.out.1
                  unfold BoxL at h2
                  rw [← e, h2] at h1
                  simp at h1)).trans HBL.out.1
                have hp2 : IsPs (X1.setCell ⟨sb, p, none⟩ (.bool true)) a2 ps := psAt HBL.out.2.1 hmk2 fun pz hz => by
                  have h1 := HBL.out.2.2 hgd9.2 pz hz
                  have h2 := HPX.out.st.new
                  have h3 := HSH.out.1.le
                  omega
                obtain ⟨X2, hX2⟩ : ∃ X2, X1.setCell ⟨sb, p, none⟩ (.bool true) = X2 := ⟨_, rfl⟩
                rw [hX2] at hmk hlk2 hb2 hp2
                have HR0 : Hid (Rt9 w sb n1 (fun q => if q = p then true else seP NA (rs.take j) g kk (q : Int)) (cnB (N9 NA) (rs.take (j + 1)) (seP NA (rs.take j) g kk)) T B0 (.slice (some ⟨bp, op, none⟩) gl pc) qv g qs y L a2 np c2 ps 0 v1 X2) := Lib.hid ⟨hmk.same fun q => by simp [vls], hlk2, hb2, hp2⟩
                have HX2 := Lib.hid hX2
                have HSV := Lib.hid hsv
                clear hlt2 hgl2 hix hpx hgd hp hI hbp hcp n3 hL hps hnp hk1 hbl hixn hsv HPX HBL hmk hmk2 hlk2 hb2 hp2 hX2 hnd9 hgk9 hgd9
                go_wp2_with fail
                rw [HX2.out]
                clear i3 i6 y0 y1 s9 fr9 t0 t1 n1c n2c
                go_loopw [6, 12] (fun o i wr => ∃ (u : Nat) (W3 : World) (v3 : Value), W3 = wr ∧ v3 = o ∧ u ≤ np ∧ i = .int .i64 (u : Int) ∧ Hid (Rt9 w sb n1 (fun q => if q = p then true else seP NA (rs.take j) g kk (q : Int)) (cnB (N9 NA) (rs.take (j + 1)) (seP NA (rs.take j) g kk)) T B0 (.slice (some ⟨bp, op, none⟩) gl pc) qv g qs y L a2 np c2 ps u v3 W3 ∧ (L ≤ 0 → u = 0))) (fun _ i _ => np - (RowKit.intOf i).toNat)
                case atStart => exact ⟨0, _, _, rfl, rfl, Nat.zero_le _, rfl, Lib.hid ⟨HR0.out, fun _ => rfl⟩⟩
                case round =>
                  obtain ⟨u, W3, v3, rfl, rfl, hu, rfl, HR⟩ := hrel
                  clear HR0
                  have b0 := HR.out.1.bx.c0
                  have b1 := HR.out.1.bx.c1
                  have u0 : (0 : Int) ≤ (u : Int) := Int.natCast_nonneg u
                  have unp : (np : Int) ≤ 1000 := rt_np hnp1
                  by_cases hlu : u < np
                  · have u1 : (u : Int) < (np : Int) := Int.ofNat_lt.2 hlu
                    by_cases hLp : 0 < L
                    · have hul : u < ps.length := by rw [HNX.out.2.2.2.2]; exact hlu
                      have hgN : goodN L ps = true := HNX.out.2.2.1.1
                      obtain ⟨x, hx, hx5, x1, x2⟩ := rt_val hgN hLp hul
                      obtain ⟨b2, o2, rfl, _, hcc⟩ := HR.out.1.pa.cells (Nat.lt_of_le_of_lt (Nat.zero_le u) hul)
                      have cv := (hcc u hul).2
                      rw [hx] at cv
                      obtain ⟨ne, hne⟩ : ∃ ne, (enE (fun q => cnB (N9 NA) (rs.take (j + 1)) (seP NA (rs.take j) g kk) q + vls (ps.take u) q)).length = ne := ⟨_, rfl⟩
                      have hrow := HR.out.1.st.row
                      rw [hne] at hrow
                      obtain ⟨a0, c0, rfl⟩ := row_slice9 hrow
                      have hbd : ∀ q, cnB (N9 NA) (rs.take (j + 1)) (seP NA (rs.take j) g kk) q + vls (ps.take u) q ≤ 100000 := fun q => by
                        exact rt_bound (cnB_le HSH.out.1.len (rs := rs.take (j + 1)) (Nat.le_trans (List.length_take_le' _ _) HSH.out.2.2.2.1) (seP NA (rs.take j) g kk) q) (vls_le (ps.take u) q) HNX.out.2.2.2.2 hnp1
                      have hIE : IsE9 W3 a0 (enE (fun q => cnB (N9 NA) (rs.take (j + 1)) (seP NA (rs.take j) g kk) q + vls (ps.take u) q)) := by
                        rw [← hne] at hrow
                        exact row_IsE9 hrow
                      have CAD := r9addC _ a0 c0 (x : Int) W3 hIE hx5.1 hx5.2 hbd
                      rw [hne] at CAD
                      have CAD := Lib.hid CAD
                      have HXX : Hid (∀ v' W', KeptIn (· < W3.heap.size) W3 W' → W'.ownsRow W3.heap.size 42 2 v' (enE (cnUp (fun q => cnB (N9 NA) (rs.take (j + 1)) (seP NA (rs.take j) g kk) q + vls (ps.take u) q) (x : Int))).length (cellsE9 (enE (cnUp (fun q => cnB (N9 NA) (rs.take (j + 1)) (seP NA (rs.take j) g kk) q + vls (ps.take u) q) (x : Int)))) → Rt9 w sb n1 (fun q => if q = p then true else seP NA (rs.take j) g kk (q : Int)) (cnB (N9 NA) (rs.take (j + 1)) (seP NA (rs.take j) g kk)) T B0 (.slice (some ⟨bp, op, none⟩) gl pc) qv g qs y L (some ⟨b2, o2, none⟩) np c2 ps (u + 1) v' W' ∧ (L ≤ 0 → u + 1 = 0)) := Lib.hid fun v' W' h1 h2 => ⟨HR.out.1.add hul (by rw [hx]; exact x1) h1 h2, fun h3 => absurd hLp (Int.not_lt.2 h3)⟩
                      clear hrow hbd hIE hne hcc hx hgN hul HR
                      go_wp2_with fail
                      refine CAD.out.mono ?_
                      rintro e W4 ⟨v4, rfl, h1, h2⟩
                      have HR2 := Lib.hid (HXX.out v4 W4 h2 h1)
                      clear CAD HXX h1 h2 b0 b1 cv
                      go_wp2_with fail
                      go_roundw
                      case rel => exact ⟨u + 1, _, _, rfl, rfl, hlu, by go_num, HR2⟩
                      case measure => simp only [RowKit.intOf]; exact rt_meas hlu
                    · have L1 : ¬ 0 < L := hLp
                      have hL0 : L = 0 := by
                        exact rt_low HNX.out.2.2.1.1 hLp
                      have HP9 : Hid (Rp9 w NA (rs.take j) (rs.take (j + 1)) g sb n1 T B0 (.slice (some ⟨bp, op, none⟩) gl pc) qv qs (kk + 1) v3 W3) := Lib.hid (HR.out.1.fin HNX.out.1 HNX.out.2.2.1 HNX.out.2.2.2.1 HNX.out.2.1 HSV.out (.inl ⟨hL0, HR.out.2 (Int.le_of_eq hL0)⟩))
                      clear HR hLp hL0
                      go_wp2_with fail
                      go_roundw
                      case rel => exact ⟨kk + 1, _, _, rfl, rfl, by have := HKM.out; omega, by go_num, HP9⟩
                      case measure => have := HKM.out; simp only [RowKit.intOf]; omega
                  · have u1 : ¬ (u : Int) < (np : Int) := rt_ge hlu
                    have HP9 : Hid (Rp9 w NA (rs.take j) (rs.take (j + 1)) g sb n1 T B0 (.slice (some ⟨bp, op, none⟩) gl pc) qv qs (kk + 1) v3 W3) := Lib.hid (HR.out.1.fin HNX.out.1 HNX.out.2.2.1 HNX.out.2.2.2.1 HNX.out.2.1 HSV.out (.inr ⟨fun h0 => by
                      have h1 := HR.out.2 (Int.le_of_eq h0)
                      have h2 := HNX.out.2.2.1.2
                      exact rt_none h2 HNX.out.2.2.2.2 h1 hlu, by rw [HNX.out.2.2.2.2]; exact Nat.le_antisymm hu (Nat.le_of_not_lt hlu)⟩))
                    clear HR hlu
                    go_wp2_with fail
                    go_roundw
                    case rel => exact ⟨kk + 1, _, _, rfl, rfl, by have := HKM.out; omega, by go_num, HP9⟩
                    case measure => have := HKM.out; simp only [RowKit.intOf]; omega
            · have d4 : ¬ (kk : Int) < (gl : Int) := by omega
              have HRO : Hid (Ro9 w NA rs sb n1 (j + 1) v1 W2) := Lib.hid (HEN.out _ _ _ _ _ kk v1 W2 (by omega) HP.out)
              clear HP
              go_wp2_with fail
              go_roundw
              case rel => exact ⟨j + 1, _, _, rfl, rfl, rfl, rfl, by have := HJM.out; omega, by go_num, HRO⟩
              case measure => have := HJM.out; simp only [RowKit.intOf]; omega
        · obtain ⟨C9, hC9⟩ : ∃ C9, cnB (N9 NA) (rs.take j) (inT NA (rs.take j)) = C9 := ⟨_, rfl⟩
          obtain ⟨ne, hne⟩ : ∃ ne, (enE C9).length = ne := ⟨_, rfl⟩
          have hrow := HJ.out.st.row
          rw [hC9, hne] at hrow
          obtain ⟨a0, c0, rfl⟩ := row_slice9 hrow
          have hrt := tsG_root (NA := NA) (r := r) (by rw [HF.out]; rfl) hr0
          have hrt2 : 0 ≤ r ∧ r < 512 := by have := HSH.out.1.len; omega
          have HAD : Hid (∀ V, KeptIn (· < W.heap.size) W V → Calls Try.prog 28 #[.slice a0 ne c0, .int .i64 r] V (AdS V (enE (cnUp C9 r)))) := Lib.hid fun V hk => by
            have h9 := (HJ.out.st.old hk).row
            rw [hC9] at h9
            rw [← hne] at h9 ⊢
            exact r9addC C9 a0 c0 r V (row_IsE9 h9) hrt2.1 hrt2.2 fun q => by rw [← hC9]; exact Nat.le_trans (cnB_le HSH.out.1.len (by rw [List.length_take]; have := HSH.out.2.2.2.1; omega) _ q) (by decide)
          have HP1 : Hid (∀ (T B0 : Nat) (pv qv : Value) (qs : Pairs) (V V2 : World) (v2 : Value), KeptIn (· < W.heap.size) W V → LkAt V T B0 pv qv g qs → KeptIn (· < V.heap.size) V V2 → V2.ownsRow V.heap.size 42 2 v2 (enE (cnUp C9 r)).length (cellsE9 (enE (cnUp C9 r))) → Rp9 w NA (rs.take j) (rs.take (j + 1)) g sb n1 T B0 pv qv qs 0 v2 V2) := Lib.hid fun T B0 pv qv qs V V2 v2 hk hat hk2 hr2 => by
            refine ⟨(((HJ.out.st.old hk).add hk2 hr2).sameS fun q => (seP_zero _ _ _ _).symm).same fun q => ?_, hat.old hk2⟩
            rw [← hC9]
            have e := cn_root (N9 NA) (rs.take j) r (inT NA (rs.take j)) hr0 q
            unfold cnB
            rw [HRR.out.2, cnP_congr _ (seP_zero NA (rs.take j) g)]
            exact e
          have q0 : (r != 0) = true := by rw [bne_iff_ne]; exact hr0
          have q1 : (r == 0) = false := by rw [beq_eq_false_iff_ne]; exact hr0
          clear hC9 hne hrow hrt hrt2
          go_wp2_with (first | (go_at_call 27; refine HC.out.mono ?_; rintro e V ⟨T, B0, rfl, ⟨pv, qv, qs, hat, hql, -⟩, hTn, hk⟩; obtain ⟨ap, pc, hpe⟩ := row_sliceI hat.prow; rw [HGL.out] at hpe; subst hpe; have z0 := hat.c2; have z1 := HRC.out V (HKW.out.go hk); have HAV := Lib.hid (HAD.out V hk); have HPV := Lib.hid (fun V2 v2 h1 h2 => HP1.out T B0 _ qv qs V V2 v2 hk hat h1 h2); have HTN := Lib.hid hTn; clear hat hk hTn) | (go_at_call 28; refine HAV.out.mono ?_; rintro e V2 ⟨v2, rfl, hrw, hk2⟩; have HP0 := Lib.hid (HPV.out V2 v2 hk2 hrw); clear hrw hk2))
          clear z0 z1 f1 q0 q1
          have HQ0 : Hid (Rp9 w NA (rs.take j) (rs.take (j + 1)) g sb n1 T B0 (.slice ap gl pc) qv qs 0 v2 V2) := HP0
          have hglI : (gl : Int) ≤ 511 := by have h9 := HG.out.1.len; have h10 := HGL.out; have h11 := HSH.out.1.len; omega
          clear HP0
          go_loopw [6, 10, 11, 12] (fun o k _ _ wr => ∃ (kk : Nat) (W : World) (v1 : Value), W = wr ∧ v1 = o ∧ kk ≤ gl ∧ k = .int .i64 (kk : Int) ∧ Hid (Rp9 w NA (rs.take j) (rs.take (j + 1)) g sb n1 T B0 (.slice ap gl pc) qv qs kk v1 W)) (fun _ k _ _ _ => gl - (RowKit.intOf k).toNat)
          case atStart => exact ⟨0, _, _, rfl, rfl, Nat.zero_le _, rfl, HQ0⟩
          case round =>
            obtain ⟨kk, W2, v1, rfl, rfl, hkk, rfl, HP⟩ := hrel
            clear HQ0
            have t0 := HP.out.lk.c0
            by_cases hlt2 : kk < gl
            · obtain ⟨d5, d6⟩ := rq_idx hlt2 (by have h9 := HG.out.1.len; have := HGL.out; have := HSH.out.1.len; omega)
              have HKM := Lib.hid hlt2
              have hgl2 : kk < g.length := by rw [HGL.out]; exact hlt2
              obtain ⟨ix, hix, hpx, hgd⟩ := HG.out.2 g[kk] (List.getElem_mem hgl2)
              obtain ⟨p, hp⟩ : ∃ p, ix + 1 = p := ⟨_, rfl⟩
              rw [hp] at hpx
              have hI : IntsL W2 ap g := by
                have h9 := HP.out.lk.prow
                rw [← HGL.out] at h9
                exact rowIntsL h9 (by unfold maxLen; have := HG.out.1.len; have := HSH.out.1.len; omega)
              obtain ⟨bp, op, hap, hbp, hcp⟩ := hI.cells (by omega)
              have y0 := hcp kk hgl2
              rw [show g.getD kk 0 = (p : Int) by rw [List.getD_eq_getElem?_getD, List.getElem?_eq_getElem hgl2]; exact hpx] at y0
              obtain ⟨b, off, hlae, a2, c2, n1c, n2c, n3⟩ := sh_node (HSH.out.1.old HP.out.st.kept) ((World.cell?_of_block (a := ⟨s, 0, none⟩) (HP.out.st.kept.block s (Nat.lt_of_lt_of_le HSH.out.1.ds HSH.out.1.le))).trans HSH.out.2.1) hix
              obtain ⟨L, hL⟩ : ∃ L, NA[ix].1 = L := ⟨_, rfl⟩
              obtain ⟨ps, hps⟩ : ∃ ps, NA[ix].2 = ps := ⟨_, rfl⟩
              obtain ⟨np, hnp⟩ : ∃ np, ps.length = np := ⟨_, rfl⟩
              rw [hL] at n1c
              rw [hps, hnp] at n2c
              rw [hps] at n3
              obtain ⟨y, hy⟩ : ∃ y, W2.heap.size = y := ⟨_, rfl⟩
              obtain ⟨X1, hX1⟩ : ∃ X1, W2.alloc (.cells #[.int .i64 L, .slice a2 np c2] 27) = X1 := ⟨_, rfl⟩
              have hk1 : KeptIn (· < W2.heap.size) W2 X1 := by rw [← hX1]; exact (KeptIn.refl _ W2).alloc (fun _ h => h) _
              have hbl : BoxL y L a2 np c2 X1 := by rw [← hX1, ← hy]; exact BoxL.new W2 L a2 np c2
              have HPX := Lib.hid (HP.out.old hk1)
              have HBL := Lib.hid (And.intro hbl (And.intro (n3.1.old hk1) n3.2))
              have t1 := HPX.out.lk.c0
              have y1 := (World.cell?_of_block (a := ⟨bp, op + kk, none⟩) (hk1.block bp hbp)).trans y0
              obtain ⟨s9, fr9⟩ := HPX.out.st.cell (i := p) (by have := HSH.out.2.2.2.2.2.1; have := HSH.out.2.2.2.2.2.2; omega)
              have hnd9 : NA[ix]? = some (L, ps) := by rw [List.getElem?_eq_getElem hix, ← hL, ← hps]
              have hgk9 : g[kk]? = some (p : Int) := by rw [List.getElem?_eq_getElem hgl2, hpx]
              have hgd9 : gdA (L, ps) := by rw [← hL, ← hps]; exact hgd
              have HNX := Lib.hid (And.intro hnd9 (And.intro hgk9 (And.intro hgd9 (And.intro hp hnp))))
              have hnp1 : np ≤ 1000 := by have := HSH.out.1.small ix hix; rw [hps, hnp] at this; exact this
              have hixn : ix < nn := by rw [← HSH.out.2.2.2.2.2.1]; exact hix
              obtain ⟨i3, i6, i4, i5, s0, s1⟩ := rq_page hp hixn (by have := HSH.out.2.2.2.2.2.1; have := HSH.out.1.len; omega) HSH.out.2.2.2.2.2.2
              subst hap hlae
              obtain ⟨sv, hsv⟩ : ∃ sv, seP NA (rs.take j) g kk (p : Int) = sv := ⟨_, rfl⟩
              rw [hsv] at s9
              cases sv with
              | true =>
                have HAG := Lib.hid (HPX.out.again hgl2 (by rw [hpx]; exact hsv))
                clear HNX hlt2 hgl2 hix hpx hgd hp hI hbp hcp n3 hL hps hnp hk1 hbl hixn hsv HPX hnd9 hgk9 hgd9 fr9
                go_wp2_with fail
                clear i3 i6
                go_roundw
                case rel => exact ⟨kk + 1, _, _, rfl, rfl, by have := HKM.out; omega, by go_num, HAG⟩
                case measure => have := HKM.out; simp only [RowKit.intOf]; omega
              | false =>
                obtain ⟨hmk, hmk2⟩ := HPX.out.st.mark p
                have hlk2 := HPX.out.lk.but HPX.out.st.seen hmk2
                have hb2 : BoxL y L a2 np c2 (X1.setCell ⟨sb, p, none⟩ (.bool true)) := (hmk2.block y (fun e => by
                  have h1 := HPX.out.st.seen
                  have h2 := HBL.out.1
                  unfold BoxL at h2
                  rw [← e, h2] at h1
                  simp at h1)).trans HBL.out.1
                have hp2 : IsPs (X1.setCell ⟨sb, p, none⟩ (.bool true)) a2 ps := psAt HBL.out.2.1 hmk2 fun pz hz => by
                  have h1 := HBL.out.2.2 hgd9.2 pz hz
                  have h2 := HPX.out.st.new
                  have h3 := HSH.out.1.le
                  omega
                obtain ⟨X2, hX2⟩ : ∃ X2, X1.setCell ⟨sb, p, none⟩ (.bool true) = X2 := ⟨_, rfl⟩
                rw [hX2] at hmk hlk2 hb2 hp2
                have HR0 : Hid (Rt9 w sb n1 (fun q => if q = p then true else seP NA (rs.take j) g kk (q : Int)) (cnB (N9 NA) (rs.take (j + 1)) (seP NA (rs.take j) g kk)) T B0 (.slice (some ⟨bp, op, none⟩) gl pc) qv g qs y L a2 np c2 ps 0 v1 X2) := Lib.hid ⟨hmk.same fun q => by simp [vls], hlk2, hb2, hp2⟩
                have HX2 := Lib.hid hX2
                have HSV := Lib.hid hsv
                clear hlt2 hgl2 hix hpx hgd hp hI hbp hcp n3 hL hps hnp hk1 hbl hixn hsv HPX HBL hmk hmk2 hlk2 hb2 hp2 hX2 hnd9 hgk9 hgd9
                go_wp2_with fail
                rw [HX2.out]
                clear i3 i6 y0 y1 s9 fr9 t0 t1 n1c n2c
                go_loopw [6, 12] (fun o i wr => ∃ (u : Nat) (W3 : World) (v3 : Value), W3 = wr ∧ v3 = o ∧ u ≤ np ∧ i = .int .i64 (u : Int) ∧ Hid (Rt9 w sb n1 (fun q => if q = p then true else seP NA (rs.take j) g kk (q : Int)) (cnB (N9 NA) (rs.take (j + 1)) (seP NA (rs.take j) g kk)) T B0 (.slice (some ⟨bp, op, none⟩) gl pc) qv g qs y L a2 np c2 ps u v3 W3 ∧ (L ≤ 0 → u = 0))) (fun _ i _ => np - (RowKit.intOf i).toNat)
                case atStart => exact ⟨0, _, _, rfl, rfl, Nat.zero_le _, rfl, Lib.hid ⟨HR0.out, fun _ => rfl⟩⟩
                case round =>
                  obtain ⟨u, W3, v3, rfl, rfl, hu, rfl, HR⟩ := hrel
                  clear HR0
                  have b0 := HR.out.1.bx.c0
                  have b1 := HR.out.1.bx.c1
                  have u0 : (0 : Int) ≤ (u : Int) := Int.natCast_nonneg u
                  have unp : (np : Int) ≤ 1000 := rt_np hnp1
                  by_cases hlu : u < np
                  · have u1 : (u : Int) < (np : Int) := Int.ofNat_lt.2 hlu
                    by_cases hLp : 0 < L
                    · have hul : u < ps.length := by rw [HNX.out.2.2.2.2]; exact hlu
                      have hgN : goodN L ps = true := HNX.out.2.2.1.1
                      obtain ⟨x, hx, hx5, x1, x2⟩ := rt_val hgN hLp hul
                      obtain ⟨b2, o2, rfl, _, hcc⟩ := HR.out.1.pa.cells (Nat.lt_of_le_of_lt (Nat.zero_le u) hul)
                      have cv := (hcc u hul).2
                      rw [hx] at cv
                      obtain ⟨ne, hne⟩ : ∃ ne, (enE (fun q => cnB (N9 NA) (rs.take (j + 1)) (seP NA (rs.take j) g kk) q + vls (ps.take u) q)).length = ne := ⟨_, rfl⟩
                      have hrow := HR.out.1.st.row
                      rw [hne] at hrow
                      obtain ⟨a0, c0, rfl⟩ := row_slice9 hrow
                      have hbd : ∀ q, cnB (N9 NA) (rs.take (j + 1)) (seP NA (rs.take j) g kk) q + vls (ps.take u) q ≤ 100000 := fun q => by
                        exact rt_bound (cnB_le HSH.out.1.len (rs := rs.take (j + 1)) (Nat.le_trans (List.length_take_le' _ _) HSH.out.2.2.2.1) (seP NA (rs.take j) g kk) q) (vls_le (ps.take u) q) HNX.out.2.2.2.2 hnp1
                      have hIE : IsE9 W3 a0 (enE (fun q => cnB (N9 NA) (rs.take (j + 1)) (seP NA (rs.take j) g kk) q + vls (ps.take u) q)) := by
                        rw [← hne] at hrow
                        exact row_IsE9 hrow
                      have CAD := r9addC _ a0 c0 (x : Int) W3 hIE hx5.1 hx5.2 hbd
                      rw [hne] at CAD
                      have CAD := Lib.hid CAD
                      have HXX : Hid (∀ v' W', KeptIn (· < W3.heap.size) W3 W' → W'.ownsRow W3.heap.size 42 2 v' (enE (cnUp (fun q => cnB (N9 NA) (rs.take (j + 1)) (seP NA (rs.take j) g kk) q + vls (ps.take u) q) (x : Int))).length (cellsE9 (enE (cnUp (fun q => cnB (N9 NA) (rs.take (j + 1)) (seP NA (rs.take j) g kk) q + vls (ps.take u) q) (x : Int)))) → Rt9 w sb n1 (fun q => if q = p then true else seP NA (rs.take j) g kk (q : Int)) (cnB (N9 NA) (rs.take (j + 1)) (seP NA (rs.take j) g kk)) T B0 (.slice (some ⟨bp, op, none⟩) gl pc) qv g qs y L (some ⟨b2, o2, none⟩) np c2 ps (u + 1) v' W' ∧ (L ≤ 0 → u + 1 = 0)) := Lib.hid fun v' W' h1 h2 => ⟨HR.out.1.add hul (by rw [hx]; exact x1) h1 h2, fun h3 => absurd hLp (Int.not_lt.2 h3)⟩
                      clear hrow hbd hIE hne hcc hx hgN hul HR
                      go_wp2_with fail
                      refine CAD.out.mono ?_
                      rintro e W4 ⟨v4, rfl, h1, h2⟩
                      have HR2 := Lib.hid (HXX.out v4 W4 h2 h1)
                      clear CAD HXX h1 h2 b0 b1 cv
                      go_wp2_with fail
                      go_roundw
                      case rel => exact ⟨u + 1, _, _, rfl, rfl, hlu, by go_num, HR2⟩
                      case measure => simp only [RowKit.intOf]; exact rt_meas hlu
                    · have L1 : ¬ 0 < L := hLp
                      have hL0 : L = 0 := by
                        exact rt_low HNX.out.2.2.1.1 hLp
                      have HP9 : Hid (Rp9 w NA (rs.take j) (rs.take (j + 1)) g sb n1 T B0 (.slice (some ⟨bp, op, none⟩) gl pc) qv qs (kk + 1) v3 W3) := Lib.hid (HR.out.1.fin HNX.out.1 HNX.out.2.2.1 HNX.out.2.2.2.1 HNX.out.2.1 HSV.out (.inl ⟨hL0, HR.out.2 (Int.le_of_eq hL0)⟩))
                      clear HR hLp hL0
                      go_wp2_with fail
                      go_roundw
                      case rel => exact ⟨kk + 1, _, _, rfl, rfl, by have := HKM.out; omega, by go_num, HP9⟩
                      case measure => have := HKM.out; simp only [RowKit.intOf]; omega
                  · have u1 : ¬ (u : Int) < (np : Int) := rt_ge hlu
                    have HP9 : Hid (Rp9 w NA (rs.take j) (rs.take (j + 1)) g sb n1 T B0 (.slice (some ⟨bp, op, none⟩) gl pc) qv qs (kk + 1) v3 W3) := Lib.hid (HR.out.1.fin HNX.out.1 HNX.out.2.2.1 HNX.out.2.2.2.1 HNX.out.2.1 HSV.out (.inr ⟨fun h0 => by
                      have h1 := HR.out.2 (Int.le_of_eq h0)
                      have h2 := HNX.out.2.2.1.2
                      exact rt_none h2 HNX.out.2.2.2.2 h1 hlu, by rw [HNX.out.2.2.2.2]; exact Nat.le_antisymm hu (Nat.le_of_not_lt hlu)⟩))
                    clear HR hlu
                    go_wp2_with fail
                    go_roundw
                    case rel => exact ⟨kk + 1, _, _, rfl, rfl, by have := HKM.out; omega, by go_num, HP9⟩
                    case measure => have := HKM.out; simp only [RowKit.intOf]; omega
            · have d4 : ¬ (kk : Int) < (gl : Int) := by omega
              have HRO : Hid (Ro9 w NA rs sb n1 (j + 1) v1 W2) := Lib.hid (HEN.out _ _ _ _ _ kk v1 W2 (by omega) HP.out)
              clear HP
              go_wp2_with fail
              go_roundw
              case rel => exact ⟨j + 1, _, _, rfl, rfl, rfl, rfl, by have := HJM.out; omega, by go_num, HRO⟩
              case measure => have := HJM.out; simp only [RowKit.intOf]; omega
    · have d1 : ¬ (j : Int) < (m : Int) := by omega
      have HE : Hid (RsG w RES R (.returned (.tuple #[v0, .bool true])) W) := Lib.hid (by
        have hjr : rs.take j = rs := List.take_of_length_le (by have := HM.out; omega)
        have hall := HJ.out.all
        have hst := HJ.out.st
        rw [hjr] at hall hst
        rw [HSH.out.2.2.2.2.1.2 hall, ← HRES.out]
        exact ⟨v0, rfl, hst.row, hst.kept⟩)
      clear HJ
      go_wp2_with fail
      go_ret2
      exact HE.out

end Go.Proofs.Ytdbohcdjamhdjaa
