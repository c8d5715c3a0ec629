import Derived.Test.YtdbanlifneomgaaP4
import Derived.Test.YtdbanlifneomgaaTv8Q
/- Layer 14: List. -/
set_option linter.unusedVariables false
namespace Go.Proofs.Ytdbanlifneomgaa
open Go.RowKit

/-- The places of pairs; none: one is none's. -/
def plsOf : Pairs → Option (List Pla)
  | [] => some []
  | p :: r => match readPl p.1 p.2 with
    | none => none
    | some v => (plsOf r).map (v :: ·)
theorem plsOf_snoc (ps : Pairs) (k x : Nat) : plsOf (ps ++ [(k, x)]) = (plsOf ps).bind fun l => (readPl k x).map fun v => l ++ [v] := by
  induction ps with
  | nil =>
    rw [List.nil_append, plsOf]
    cases h : readPl k x with
    | none => simp [plsOf, h]
    | some v => simp [plsOf, h]
  | cons p r ih =>
    rw [List.cons_append, plsOf, ih, plsOf]
    cases readPl p.1 p.2 with
    | none => rfl
    | some v =>
      cases plsOf r with
      | none => rfl
      | some l =>
        cases readPl k x with
        | none => rfl
        | some u => rfl
theorem plsOf_none {ps qs : Pairs} (h : plsOf ps = none) : plsOf (ps ++ qs) = none := by
  induction ps with
  | nil => cases h
  | cons p r ih =>
    rw [List.cons_append, plsOf]
    rw [plsOf] at h
    cases hr : readPl p.1 p.2 with
    | none => rfl
    | some v =>
      rw [hr] at h
      simp only [Option.map_eq_none_iff] at h
      rw [ih h]
      rfl
theorem plsOf_length {ps : Pairs} {l : List Pla} (h : plsOf ps = some l) : l.length = ps.length := by
  induction ps generalizing l with
  | nil => rw [plsOf] at h; cases h; rfl
  | cons p r ih =>
    rw [plsOf] at h
    cases hr : readPl p.1 p.2 with
    | none => rw [hr] at h; cases h
    | some v =>
      rw [hr] at h
      cases hv : plsOf r with
      | none => simp [hv] at h
      | some m =>
        simp [hv] at h
        subst h
        rw [List.length_cons, List.length_cons, ih hv]

/-- A row of places that a call makes since block B. -/
def PfJ (B : Nat) (V : World) (out : List Pla) (v : Value) (W : World) : Prop := W.ownsRow B 47 3 v out.length (cellsL out) ∧ KeptIn (· < B) V W
theorem PfJ.old {B : Nat} {V W W' : World} {out : List Pla} {v : Value} (h : PfJ B V out v W) (hB : B ≤ W.heap.size) (hk : KeptIn (· < W.heap.size) W W') : PfJ B V out v W' :=
  ⟨rowS_block h.1 fun g e => hk.block g (rowS_lt h.1 g e).2, h.2.trans (hk.mono fun k hk' => Nat.lt_of_lt_of_le hk' hB)⟩
theorem PfJ.next {B : Nat} {V W w8 : World} {out : List Pla} {v v' : Value} {u : Pla} {o : Obj} (h : PfJ B V out v W) (hB : V.heap.size = B) (hown : w8.ownsRow B 47 3 v' (out.length + 1) (cellsL out ++ [.int .i64 u.ch, .int .i64 u.tier, .int .i64 u.slot]))
    (hgrow : (W.alloc o).grownBy w8 v.ownBlock) : PfJ B V (out ++ [u]) v' w8 := by
  refine ⟨?_, ?_⟩
  · rw [List.length_append, cellsL_append]; exact hown
  · exact (h.2.trans (((KeptIn.refl _ W).alloc (fun _ h => h) _).mono fun k hk => Nat.lt_of_lt_of_le (by rw [hB]; exact hk) h.2.size)).grown (fun k hk => by rw [hB]; exact hk) hgrow (fun g e => Nat.not_lt.2 (rowS_lt h.1 g e).1)

theorem pf_bnd (j : Nat) (h : j ≤ 1000) : j + 1 ≤ maxLen ∧ (j + 1) * 24 ≤ 140737488355328 := by
  refine ⟨?_, by omega⟩
  unfold maxLen
  omega

/-- What List answers. -/
def PlS (w : World) : Option (List Pla) → Ending → World → Prop
  | some l, e, w' => ∃ v, e = .returned (.tuple #[v, .int .i64 0]) ∧ w'.ownsRow w.heap.size 47 3 v l.length (cellsL l) ∧ KeptIn (· < w.heap.size) w w'
  | none, e, w' => e = .returned (.tuple #[.slice none 0 0, .int .i64 3]) ∧ KeptIn (· < w.heap.size) w w'

theorem take_snoc14 (qs : Pairs) (j : Nat) (h : j < qs.length) : qs.take (j + 1) = qs.take j ++ [(keyAt qs j, valAt qs j)] := by
  rw [List.take_add_one, List.getElem?_eq_getElem h, keyAt_get h, valAt_get h]
  rfl
/-- The pairs that are to be places. -/
def pr (qs : Pairs) : Pairs := rng 8589934592 12884901887 qs
theorem pr_len (qs : Pairs) : (pr qs).length ≤ qs.length := by unfold pr rng; exact List.length_filter_le _ _

theorem pm_new (V : World) (o : Obj) : ((V.alloc o).alloc o).heap[V.heap.size + 1]? = some o := by
  have := heap_alloc_new (V.alloc o) o
  rwa [World.size_alloc] at this


theorem row_weakenP {W : World} {B B' n s : Nat} {T : TypeId} {v : Value} {xs : List Value} (h : W.ownsRow B T s v n xs) (hB : B' ≤ B) : W.ownsRow B' T s v n xs := by
  refine ⟨h.1, ?_⟩
  rcases h.2 with h1 | ⟨g, cap, cur, e, hg, r⟩
  · exact .inl h1
  · exact .inr ⟨g, cap, cur, e, Nat.le_trans hB hg, r⟩
theorem plsOf_take {ps : Pairs} {j : Nat} (h : j < ps.length) : ps.take (j + 1) = ps.take j ++ [(keyAt ps j, valAt ps j)] := take_snoc14 ps j h

set_option maxHeartbeats 4000000 in
set_option maxRecDepth 100000 in
theorem plList {w0 w : World} {s room root f c : Nat} {qs : Pairs} (h : TrM w0 s room root qs f c w) (hq : qs.length ≤ 1000) :
    Calls Try.prog 24 #[pgV s, .int .i64 (root : Int)] w (PlS w (plsOf (pr qs))) := by
  have HRG := Lib.hid (tmRange h 8589934592 12884901887 (by decide) (by decide) (by omega))
  obtain ⟨ps, hps⟩ : ∃ ps, pr qs = ps := ⟨_, rfl⟩
  rw [show rng 8589934592 12884901887 qs = ps from hps] at HRG
  rw [hps]
  have hlen : ps.length ≤ 1000 := by rw [← hps]; exact Nat.le_trans (pr_len qs) hq
  clear hps hq h
  obtain ⟨R, hR⟩ : ∃ R, plsOf ps = R := ⟨_, rfl⟩
  have HRR := Lib.hid hR
  rw [hR]
  clear hR
  unfold pgV at HRG ⊢
  obtain ⟨ii, hii, hz0, hz1, hz2⟩ := info_parts infoPla
  go_enter Try.func24, Try.ntmps24
  go_wp2_with fail
  refine HRG.out.mono ?_
  rintro e V1 hR1
  unfold RngS at hR1
  obtain ⟨pv, rfl, hrow, hfit, hk1⟩ := hR1
  obtain ⟨a, cap, rfl, -⟩ := row_slice hrow
  have hgp : ∀ p, a = some p → p.block < V1.heap.size := fun p e => by
    obtain ⟨q, hq1, hq2⟩ : ∃ q : Nat, a = some ⟨q, 0, none⟩ ∧ q < V1.heap.size := by
      rcases hrow.2 with ⟨e1, _⟩ | ⟨g, cap', cur, e1, hg, hb, _⟩
      · simp only [Value.slice.injEq] at e1
        rw [e1.1] at e
        cases e
      · simp only [Value.slice.injEq] at e1
        exact ⟨g, e1.1, (Array.getElem?_eq_some_iff.1 hb).1⟩
    rw [hq1] at e
    cases e
    exact hq2
  have H := Lib.hid (And.intro (row_IsPs hrow hfit) (And.intro hgp hk1))
  obtain ⟨n, hn⟩ : ∃ n, ps.length = n := ⟨_, rfl⟩
  have hnI : (n : Int) ≤ 1000 := by omega
  have HN := Lib.hid hn
  rw [hn]
  obtain ⟨B, hB⟩ : ∃ B, V1.heap.size = B := ⟨_, rfl⟩
  have HB := Lib.hid hB
  have HJ0 : Hid (PfJ B V1 [] (.slice none 0 0) V1 ∧ plsOf (ps.take 0) = some []) := Lib.hid ⟨⟨World.ownsRow_nil _ _ _ _, KeptIn.refl _ V1⟩, rfl⟩
  clear hrow hfit hk1 hgp hn hB hlen HRG
  go_wp2_with fail
  go_loopw [8, 10, 11, 12, 24] (fun v _ _ _ i wr => ∃ (j : Nat) (W : World) (v0 : Value) (out : List Pla), W = wr ∧ v0 = v ∧ j ≤ n ∧ i = .int .i64 (j : Int) ∧ Hid (PfJ B V1 out v0 W ∧ plsOf (ps.take j) = some out)) (fun _ _ _ _ i _ => n - (intOf i).toNat)
  case atStart => exact ⟨0, _, _, _, rfl, rfl, Nat.zero_le _, rfl, HJ0⟩
  case round =>
    obtain ⟨j, W, v0, out, rfl, rfl, hj, rfl, HJ⟩ := hrel
    clear HJ0
    by_cases hlt : j < n
    · have d0 : (0 : Int) ≤ (j : Int) := by omega
      have d1 : (j : Int) < (n : Int) := by omega
      have hjl : j < ps.length := by rw [HN.out]; exact hlt
      have hBW0 : B ≤ W.heap.size := by have := HJ.out.1.2.size; rw [HB.out] at this; exact this
      have hps := psAt H.out.1 HJ.out.1.2 (fun p e => by have := H.out.2.1 p e; rw [HB.out] at this; exact this)
      obtain ⟨b, off, rfl, hb, hc⟩ := hps.cells (by omega)
      obtain ⟨c1, c2⟩ := hc j hjl
      have hkf := hps.fits ps[j] (List.getElem_mem hjl)
      rw [← keyAt_get hjl, ← valAt_get hjl] at hkf
      have holn : out.length ≤ 1000 := by
        have h1 := plsOf_length HJ.out.2
        rw [List.length_take] at h1
        omega
      obtain ⟨hb1, hb2⟩ := pf_bnd out.length holn
      have HT := Lib.hid (And.intro (take_snoc14 ps j hjl) (List.take_append_drop (j + 1) ps))
      have HRD := Lib.hid fun W => plRead (keyAt ps j) (valAt ps j) hkf.1 hkf.2 W
      obtain ⟨kk, hkk⟩ : ∃ kk, keyAt ps j = kk := ⟨_, rfl⟩
      obtain ⟨vv, hvv⟩ : ∃ vv, valAt ps j = vv := ⟨_, rfl⟩
      rw [hkk] at c1 HT HRD
      rw [hvv] at c2 HT HRD
      unfold pairV at HRD
      obtain ⟨o, ho⟩ : ∃ o, readPl kk vv = o := ⟨_, rfl⟩
      rw [ho] at HRD
      have HRV := Lib.hid ho
      clear hc hkk hvv hjl hkf hps holn ho
      cases o with
      | none =>
        have HE : Hid (plsOf ps = none) := Lib.hid (by
          rw [← HT.out.2]
          refine plsOf_none ?_
          rw [HT.out.1, plsOf_snoc, HJ.out.2, HRV.out]
          rfl)
        unfold ReadP at HRD
        simp only [Option.getD_none, Option.isSome_none] at HRD
        unfold plaV pla0 at HRD
        simp only at HRD
        go_wp2_with (first
          | (go_at_call 14; refine (HRD.out _).mono ?_; rintro e V ⟨rfl, hk⟩; have HK := Lib.hid hk; clear hk))
        go_ret2
        have hRn : R = none := HRR.out.symm.trans HE.out
        rw [hRn]
        refine ⟨rfl, ?_⟩
        have k2 := HJ.out.1.old hBW0 ((KeptIn.refl _ W).alloc (fun _ h => h) (.cells #[.int .u64 (kk : Int), .int .u64 (vv : Int)] 50))
        have k3 := k2.old (Nat.le_trans hBW0 (by simp)) HK.out
        have k4 := k3.2.alloc (fun k hk => by rw [HB.out]; exact hk) (.cells #[.int .i64 0, .int .i64 0, .int .i64 0] 47)
        rw [← HB.out] at k4
        exact H.out.2.2.go k4
      | some u =>
        obtain ⟨i2, s2, r2⟩ := u
        unfold ReadP at HRD
        simp only [Option.getD_some, Option.isSome_some] at HRD
        unfold plaV at HRD
        simp only at HRD
        have HJJ : Hid (∀ {V Y : World}, KeptIn (· < (W.alloc (.cells #[.int .u64 (kk : Int), .int .u64 (vv : Int)] 50)).heap.size) (W.alloc (.cells #[.int .u64 (kk : Int), .int .u64 (vv : Int)] 50)) V → KeptIn (· < V.heap.size) V Y → B ≤ V.heap.size ∧ PfJ B V1 out v0 Y) := Lib.hid fun hk hka => by
          have k1 : KeptIn (· < W.heap.size) W (W.alloc (.cells #[.int .u64 (kk : Int), .int .u64 (vv : Int)] 50)) := (KeptIn.refl _ W).alloc (fun _ h => h) _
          have k2 := k1.go hk
          exact ⟨Nat.le_trans hBW0 k2.size, (HJ.out.1.old hBW0 k2).old (Nat.le_trans hBW0 k2.size) hka⟩
        have HJT : Hid (plsOf (ps.take (j + 1)) = some (out ++ [⟨i2, s2, r2⟩])) := Lib.hid (by rw [HT.out.1, plsOf_snoc, HJ.out.2, HRV.out]; rfl)
        clear HT HRV
        go_wp2_with (first
          | (go_at_call 14; refine (HRD.out _).mono ?_; rintro e V ⟨rfl, hk⟩; have hka : KeptIn (· < V.heap.size) V (V.alloc (.cells #[.int .i64 i2, .int .i64 s2, .int .i64 r2] 47)) := (KeptIn.refl _ V).alloc (fun _ h => h) _; have HJ9 := Lib.hid (HJJ.out hk hka); have hBW : B ≤ (V.alloc (.cells #[.int .i64 i2, .int .i64 s2, .int .i64 r2] 47)).heap.size := Nat.le_trans HJ9.out.1 hka.size; have HNB := Lib.hid (pm_new V (.cells #[.int .i64 i2, .int .i64 s2, .int .i64 r2] 47)); clear hk hka)
          | (at_builtin; refine wpList_append_own _ rfl _ _ 51 rfl B 47 ii _ 3 24 Try.underlying51 hii hz0 hz1 hz2 rfl (by decide) _ _ _ rfl (HJ9.out.2.1.alloc _) ⟨V.heap.size + 1, 0, none⟩ 1 1 [.int .i64 i2, .int .i64 s2, .int .i64 r2] rfl rfl (World.news_of_block (cs := #[.int .i64 i2, .int .i64 s2, .int .i64 r2]) (t := 47) (fr := (0, 0)) HNB.out) (by simp [Value.oneCell']) hb1 hb2 (by rw [World.size_alloc]; exact Nat.le_succ_of_le hBW) ?_))
        intro v' w8 hown hgrow _
        have HJ2 : Hid (PfJ B V1 (out ++ [⟨i2, s2, r2⟩]) v' w8 ∧ plsOf (ps.take (j + 1)) = some (out ++ [⟨i2, s2, r2⟩])) := Lib.hid ⟨HJ9.out.2.next (u := ⟨i2, s2, r2⟩) HB.out hown hgrow, HJT.out⟩
        clear hown hgrow HJ HJ9 HJT HJJ hb1 hb2 c1 c2 hBW
        go_wp2_with fail
        go_roundw
        case rel => exact ⟨j + 1, _, _, _, rfl, rfl, by omega, by go_num, HJ2⟩
        case measure => simp only [intOf]; omega
    · have d1 : ¬ (j : Int) < (n : Int) := by omega
      have HE : Hid (PlS w R (.returned (.tuple #[v0, .int .i64 0])) W) := Lib.hid (by
        have h1 := HJ.out.2
        rw [List.take_of_length_le (by rw [HN.out]; omega), HRR.out] at h1
        rw [h1]
        have hk9 := HJ.out.1.2
        rw [← HB.out] at hk9
        exact ⟨v0, rfl, row_weakenP HJ.out.1.1 (by rw [← HB.out]; exact H.out.2.2.size), H.out.2.2.go hk9⟩)
      clear HJ
      go_wp2_with fail
      go_ret2
      exact HE.out

end Go.Proofs.Ytdbanlifneomgaa
