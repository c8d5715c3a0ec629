import Derived.Test.YtlnlgapjlekehaaVlK
import Derived.Test.YtlnlgapjlekehaaTv8K
/- Layer 11: the document's List, the program's List. -/
set_option linter.unusedVariables false
namespace Go.Proofs.Ytlnlgapjlekehaa
open Go.RowKit

/-- The pairs that are to be volumes. -/
def vr (qs : Pairs) : Pairs := rng 4294967296 8589934591 qs
theorem vr_take_in (qs : Pairs) (j : Nat) (h : j < qs.length) (hk : keyAt qs j / 4294967296 = 1) : vr (qs.take (j + 1)) = vr (qs.take j) ++ [(keyAt qs j, valAt qs j)] := by
  unfold vr
  rw [take_snoc qs j h, rng_append]
  congr 1
  exact rng_all fun p hp => by rw [List.mem_singleton.1 hp]; simp only; omega
theorem vr_take_out (qs : Pairs) (j : Nat) (h : j < qs.length) (hk : keyAt qs j / 4294967296 ≠ 1) : vr (qs.take (j + 1)) = vr (qs.take j) := by
  unfold vr
  rw [take_snoc qs j h, rng_append]
  have : rng 4294967296 8589934591 [(keyAt qs j, valAt qs j)] = [] := by
    unfold rng
    rw [List.filter_eq_nil_iff]
    intro p hp
    rw [List.mem_singleton.1 hp]
    simp
    omega
  rw [this, List.append_nil]
theorem vr_none (qs : Pairs) (j : Nat) (h : j < qs.length) (hk : keyAt qs j / 4294967296 = 1) (hr : readVol (keyAt qs j) (valAt qs j) = none) {l : List Vol} (hl : volsOf (vr (qs.take j)) = some l) : volsOf (vr qs) = none := by
  have h1 : volsOf (vr (qs.take (j + 1))) = none := by
    rw [vr_take_in qs j h hk, volsOf_snoc, hl, hr]
    rfl
  have e : qs = qs.take (j + 1) ++ qs.drop (j + 1) := (List.take_append_drop _ _).symm
  conv => lhs; rw [e]
  unfold vr at h1 ⊢
  rw [rng_append]
  exact volsOf_none h1
theorem vr_len (qs : Pairs) : (vr qs).length ≤ qs.length := by unfold vr rng; exact List.length_filter_le _ _

theorem vm_new (V : World) (o : Obj) : ((V.alloc o).alloc o).heap[V.heap.size + 1]? = some o := by
  have := heap_alloc_new (V.alloc o) o
  rwa [World.size_alloc] at this


set_option maxHeartbeats 4000000 in
set_option maxRecDepth 100000 in
theorem r11List (a : Option Addr) (cap : Nat) (qs : Pairs) (w : World) (h : IsPs w a qs) (hl : qs.length ≤ 1000) :
    Calls Try.prog 30 #[.slice a qs.length cap] w (RlS w (volsOf (vr qs))) := by
  obtain ⟨n, hn⟩ : ∃ n, qs.length = n := ⟨_, rfl⟩
  have hnI : (n : Int) ≤ 1000 := by omega
  have H := Lib.hid h
  have HN := Lib.hid hn
  obtain ⟨R, hR⟩ : ∃ R, volsOf (vr qs) = R := ⟨_, rfl⟩
  have HRR := Lib.hid hR
  rw [hn, hR]
  obtain ⟨B, hB⟩ : ∃ B, w.heap.size = B := ⟨_, rfl⟩
  obtain ⟨W0, hW0⟩ : ∃ W0, w.alloc (.cells #[] 60) = W0 := ⟨_, rfl⟩
  have H00 : VfJ B w [] (.slice (some ⟨B, 0, none⟩) 0 0) W0 := by
    rw [← hW0, ← hB]
    exact ⟨World.ownsRow_made w #[] 0 (Nat.le_refl _) (by decide) rfl, (KeptIn.refl _ w).alloc (fun _ h => h) _⟩
  have HW := Lib.hid hW0
  have HB := Lib.hid hB
  have HJ0 : Hid (VfJ B w [] (.slice (some ⟨B, 0, none⟩) 0 0) W0 ∧ volsOf (vr (qs.take 0)) = some []) := Lib.hid ⟨H00, rfl⟩
  obtain ⟨ii, hii, hz0, hz1, hz2⟩ := info_parts infoVol
  clear h hn hl hR hW0 hB H00
  go_enter Try.func30, Try.ntmps30
  go_wp2_with fail
  rw [HW.out]
  simp only [HB.out]
  go_loopw [4, 5, 6, 7] (fun v i _ _ wr => ∃ (j : Nat) (W : World) (v0 : Value) (out : List Vol), W = wr ∧ v0 = v ∧ j ≤ n ∧ i = .int .i64 (j : Int) ∧ Hid (VfJ B w out v0 W ∧ volsOf (vr (qs.take j)) = some out)) (fun _ i _ _ _ => n - (intOf i).toNat)
  case atStart => exact ⟨0, _, _, _, rfl, rfl, Nat.zero_le _, rfl, HJ0⟩
  case round =>
    obtain ⟨j, W, v0, out, rfl, rfl, hj, rfl, HJ⟩ := hrel
    clear HJ0
    by_cases hlt : j < n
    · have d0 : (0 : Int) ≤ (j : Int) := by omega
      have d1 : (j : Int) < (n : Int) := by omega
      have hjl : j < qs.length := by rw [HN.out]; exact hlt
      have hBW0 : B ≤ W.heap.size := by have := HJ.out.1.2.size; rw [HB.out] at this; exact this
      have hps := H.out.old (HJ.out.1.2.mono fun k hk => by rw [← HB.out]; exact hk)
      obtain ⟨b, off, rfl, hb, hc⟩ := hps.cells (by omega)
      obtain ⟨c1, c2⟩ := hc j hjl
      have hkf := hps.fits qs[j] (List.getElem_mem hjl)
      rw [← keyAt_get hjl, ← valAt_get hjl] at hkf
      have holn : out.length ≤ 1000 := by
        have h1 := volsOf_length HJ.out.2
        have h2 := vr_len (qs.take j)
        rw [List.length_take] at h2
        omega
      obtain ⟨hb1, hb2⟩ := vf_bnd out.length holn
      have HTI := Lib.hid (vr_take_in qs j hjl)
      have HTO := Lib.hid (vr_take_out qs j hjl)
      have HNO := Lib.hid fun h1 h2 => vr_none qs j hjl h1 h2 HJ.out.2
      have HRD := Lib.hid fun W => r11Read (keyAt qs j) (valAt qs j) hkf.1 hkf.2 W
      obtain ⟨kk, hkk⟩ : ∃ kk, keyAt qs j = kk := ⟨_, rfl⟩
      obtain ⟨vv, hvv⟩ : ∃ vv, valAt qs j = vv := ⟨_, rfl⟩
      rw [hkk] at c1 HTI HTO HNO HRD
      rw [hvv] at c2 HTI HNO HRD
      unfold pairV at HRD
      obtain ⟨m, hm⟩ : ∃ m, kk / 4294967296 = m := ⟨_, rfl⟩
      have hmI : (kk : Int) / 4294967296 = (m : Int) := by omega
      have hmB : (m : Int) ≤ 4294967295 := by omega
      rw [hm] at HTI HTO HNO
      clear hc hkk hvv hjl hkf hps hm holn
      by_cases h1 : m = 1
      · subst h1
        have hmI' : (kk : Int) / 4294967296 = 1 := hmI
        obtain ⟨o, ho⟩ : ∃ o, readVol kk vv = o := ⟨_, rfl⟩
        rw [ho] at HRD HNO
        have HRV := Lib.hid ho
        clear ho hmI
        cases o with
        | none =>
          have HE : Hid (volsOf (vr qs) = none) := Lib.hid (HNO.out rfl rfl)
          unfold ReadS at HRD
          simp only [Option.getD_none, Option.isSome_none] at HRD
          unfold volV vol0 at HRD
          simp only at HRD
          go_wp2_with (first
            | (go_at_call 26; refine (HRD.out _).mono ?_; rintro e V ⟨rfl, hk⟩; have HK := Lib.hid hk; clear hk))
          go_ret2
          have hRn : R = none := HRR.out.symm.trans HE.out
          rw [hRn]
          exact ⟨rfl, by rw [HB.out]; exact ((HJ.out.1.old hBW0 HK.out).2).alloc (fun k hk => by rw [HB.out]; exact hk) _⟩
        | some u =>
          obtain ⟨i2, s2, r2, p2, f2⟩ := u
          unfold ReadS at HRD
          simp only [Option.getD_some, Option.isSome_some] at HRD
          unfold volV at HRD
          simp only at HRD
          have HJJ : Hid (∀ {V Y : World}, KeptIn (· < W.heap.size) W V → KeptIn (· < V.heap.size) V Y → B ≤ V.heap.size ∧ VfJ B w out v0 Y) := Lib.hid fun hk hka => ⟨Nat.le_trans hBW0 hk.size, (HJ.out.1.old hBW0 hk).old (Nat.le_trans hBW0 hk.size) hka⟩
          have HJT : Hid (volsOf (vr (qs.take (j + 1))) = some (out ++ [⟨i2, s2, r2, p2, f2⟩])) := Lib.hid (by rw [HTI.out rfl, volsOf_snoc, HJ.out.2, HRV.out]; rfl)
          clear HTI HTO HNO HRV
          go_wp2_with (first
            | (go_at_call 26; refine (HRD.out _).mono ?_; rintro e V ⟨rfl, hk⟩; have hka : KeptIn (· < V.heap.size) V (V.alloc (.cells #[.int .i64 i2, .int .i64 s2, .int .i64 r2, .bool p2, .int .i64 f2] 60)) := (KeptIn.refl _ V).alloc (fun _ h => h) _; have HJ9 := Lib.hid (HJJ.out hk hka); have hBW : B ≤ (V.alloc (.cells #[.int .i64 i2, .int .i64 s2, .int .i64 r2, .bool p2, .int .i64 f2] 60)).heap.size := Nat.le_trans HJ9.out.1 hka.size; have HNB := Lib.hid (vm_new V (.cells #[.int .i64 i2, .int .i64 s2, .int .i64 r2, .bool p2, .int .i64 f2] 60)); clear hk hka)
            | (at_builtin; refine wpList_append_own _ rfl _ _ 73 rfl B 60 ii _ 5 40 Try.underlying73 hii hz0 hz1 hz2 rfl (by decide) _ _ _ rfl (HJ9.out.2.1.alloc _) ⟨V.heap.size + 1, 0, none⟩ 1 1 [.int .i64 i2, .int .i64 s2, .int .i64 r2, .bool p2, .int .i64 f2] rfl rfl (World.news_of_block (cs := #[.int .i64 i2, .int .i64 s2, .int .i64 r2, .bool p2, .int .i64 f2]) (t := 60) (fr := (0, 0)) HNB.out) (by simp [Value.oneCell']) hb1 hb2 (by rw [World.size_alloc]; exact Nat.le_succ_of_le hBW) ?_))
          intro v' w8 hown hgrow _
          have HJ2 : Hid (VfJ B w (out ++ [⟨i2, s2, r2, p2, f2⟩]) v' w8 ∧ volsOf (vr (qs.take (j + 1))) = some (out ++ [⟨i2, s2, r2, p2, f2⟩])) := Lib.hid ⟨HJ9.out.2.next (u := ⟨i2, s2, r2, p2, f2⟩) HB.out hown hgrow, HJT.out⟩
          clear hown hgrow HJ HJ9 HJT HJJ hb1 hb2 c1 c2 hBW
          go_wp2_with fail
          go_roundw
          case rel => exact ⟨j + 1, _, _, _, rfl, rfl, by omega, by go_num, HJ2⟩
          case measure => simp only [intOf]; omega
      · have n1 : ((m : Int) == 1) = false := by rw [beq_eq_false_iff_ne]; omega
        have n2 : ¬ (m : Int) = 1 := by omega
        have HJ2 : Hid (VfJ B w out v0 W ∧ volsOf (vr (qs.take (j + 1))) = some out) := Lib.hid ⟨HJ.out.1, by rw [HTO.out h1]; exact HJ.out.2⟩
        clear HTI HTO HNO HRD HJ hb1 hb2 c2
        go_wp2_with fail
        go_roundw
        case rel => exact ⟨j + 1, _, _, _, rfl, rfl, by omega, by go_num, HJ2⟩
        case measure => simp only [intOf]; omega
    · have d1 : ¬ (j : Int) < (n : Int) := by omega
      have HE : Hid (RlS w R (.returned (.tuple #[v0, .bool true])) W) := Lib.hid (by
        have h1 := HJ.out.2
        rw [List.take_of_length_le (by rw [HN.out]; omega), HRR.out] at h1
        rw [h1]
        exact ⟨v0, rfl, by rw [HB.out]; exact HJ.out.1.1, by rw [HB.out]; exact HJ.out.1.2⟩)
      clear HJ
      go_wp2_with fail
      go_ret2
      exact HE.out

theorem row_weakenV {W : World} {B B' n s : Nat} {T : TypeId} {v : Value} {xs : List Value} (h : W.ownsRow B T s v n xs) (hB : B' ≤ B) : W.ownsRow B' T s v n xs := by
  refine ⟨h.1, ?_⟩
  rcases h.2 with h1 | ⟨g, cap, cur, e, hg, r⟩
  · exact .inl h1
  · exact .inr ⟨g, cap, cur, e, Nat.le_trans hB hg, r⟩
theorem volsOf_take {ps : Pairs} {j : Nat} (h : j < ps.length) : ps.take (j + 1) = ps.take j ++ [(keyAt ps j, valAt ps j)] := take_snoc ps j h

set_option maxHeartbeats 4000000 in
set_option maxRecDepth 100000 in
theorem vsList {w0 w : World} {s room root f c : Nat} {qs : Pairs} (h : TrM w0 s room root qs f c w) (hq : qs.length ≤ 1000) :
    Calls Try.prog 29 #[pgV s, .int .i64 (root : Int)] w (VlS w (volsOf (vr qs))) := by
  have HRG := Lib.hid (tmRange h 4294967296 8589934591 (by decide) (by decide) (by omega))
  obtain ⟨ps, hps⟩ : ∃ ps, vr qs = ps := ⟨_, rfl⟩
  rw [show rng 4294967296 8589934591 qs = ps from hps] at HRG
  rw [hps]
  have hlen : ps.length ≤ 1000 := by rw [← hps]; exact Nat.le_trans (vr_len qs) hq
  clear hps hq h
  obtain ⟨R, hR⟩ : ∃ R, volsOf ps = R := ⟨_, rfl⟩
  have HRR := Lib.hid hR
  rw [hR]
  clear hR
  unfold pgV at HRG ⊢
  obtain ⟨ii, hii, hz0, hz1, hz2⟩ := info_parts infoVol
  go_enter Try.func29, Try.ntmps29
  go_wp2_with fail
  refine HRG.out.mono ?_
  rintro e V1 hR1
  unfold RngS at hR1
  obtain ⟨pv, rfl, hrow, hfit, hk1⟩ := hR1
  obtain ⟨a, cap, rfl, -⟩ := row_slice hrow
  have hgp : ∀ p, a = some p → p.block < V1.heap.size := fun p e => by
    obtain ⟨q, hq1, hq2⟩ : ∃ q : Nat, a = some ⟨q, 0, none⟩ ∧ q < V1.heap.size := by
      rcases hrow.2 with ⟨e1, _⟩ | ⟨g, cap', cur, e1, hg, hb, _⟩
      · simp only [Value.slice.injEq] at e1
        rw [e1.1] at e
        cases e
      · simp only [Value.slice.injEq] at e1
        exact ⟨g, e1.1, (Array.getElem?_eq_some_iff.1 hb).1⟩
    rw [hq1] at e
    cases e
    exact hq2
  have H := Lib.hid (And.intro (row_IsPs hrow hfit) (And.intro hgp hk1))
  obtain ⟨n, hn⟩ : ∃ n, ps.length = n := ⟨_, rfl⟩
  have hnI : (n : Int) ≤ 1000 := by omega
  have HN := Lib.hid hn
  rw [hn]
  obtain ⟨B, hB⟩ : ∃ B, V1.heap.size = B := ⟨_, rfl⟩
  have HB := Lib.hid hB
  have HJ0 : Hid (VfJ B V1 [] (.slice none 0 0) V1 ∧ volsOf (ps.take 0) = some []) := Lib.hid ⟨⟨World.ownsRow_nil _ _ _ _, KeptIn.refl _ V1⟩, rfl⟩
  clear hrow hfit hk1 hgp hn hB hlen HRG
  go_wp2_with fail
  go_loopw [8, 10, 11, 12, 24] (fun v _ _ _ i wr => ∃ (j : Nat) (W : World) (v0 : Value) (out : List Vol), W = wr ∧ v0 = v ∧ j ≤ n ∧ i = .int .i64 (j : Int) ∧ Hid (VfJ B V1 out v0 W ∧ volsOf (ps.take j) = some out)) (fun _ _ _ _ i _ => n - (intOf i).toNat)
  case atStart => exact ⟨0, _, _, _, rfl, rfl, Nat.zero_le _, rfl, HJ0⟩
  case round =>
    obtain ⟨j, W, v0, out, rfl, rfl, hj, rfl, HJ⟩ := hrel
    clear HJ0
    by_cases hlt : j < n
    · have d0 : (0 : Int) ≤ (j : Int) := by omega
      have d1 : (j : Int) < (n : Int) := by omega
      have hjl : j < ps.length := by rw [HN.out]; exact hlt
      have hBW0 : B ≤ W.heap.size := by have := HJ.out.1.2.size; rw [HB.out] at this; exact this
      have hps := psAt H.out.1 HJ.out.1.2 (fun p e => by have := H.out.2.1 p e; rw [HB.out] at this; exact this)
      obtain ⟨b, off, rfl, hb, hc⟩ := hps.cells (by omega)
      obtain ⟨c1, c2⟩ := hc j hjl
      have hkf := hps.fits ps[j] (List.getElem_mem hjl)
      rw [← keyAt_get hjl, ← valAt_get hjl] at hkf
      have holn : out.length ≤ 1000 := by
        have h1 := volsOf_length HJ.out.2
        rw [List.length_take] at h1
        omega
      obtain ⟨hb1, hb2⟩ := vf_bnd out.length holn
      have HT := Lib.hid (And.intro (take_snoc ps j hjl) (List.take_append_drop (j + 1) ps))
      have HRD := Lib.hid fun W => vsRead (keyAt ps j) (valAt ps j) hkf.1 hkf.2 W
      obtain ⟨kk, hkk⟩ : ∃ kk, keyAt ps j = kk := ⟨_, rfl⟩
      obtain ⟨vv, hvv⟩ : ∃ vv, valAt ps j = vv := ⟨_, rfl⟩
      rw [hkk] at c1 HT HRD
      rw [hvv] at c2 HT HRD
      unfold pairV at HRD
      obtain ⟨o, ho⟩ : ∃ o, readVol kk vv = o := ⟨_, rfl⟩
      rw [ho] at HRD
      have HRV := Lib.hid ho
      clear hc hkk hvv hjl hkf hps holn ho
      cases o with
      | none =>
        have HE : Hid (volsOf ps = none) := Lib.hid (by
          rw [← HT.out.2]
          refine volsOf_none ?_
          rw [HT.out.1, volsOf_snoc, HJ.out.2, HRV.out]
          rfl)
        unfold ReadS at HRD
        simp only [Option.getD_none, Option.isSome_none] at HRD
        unfold volV vol0 at HRD
        simp only at HRD
        go_wp2_with (first
          | (go_at_call 24; refine (HRD.out _).mono ?_; rintro e V ⟨rfl, hk⟩; have HK := Lib.hid hk; clear hk))
        go_ret2
        have hRn : R = none := HRR.out.symm.trans HE.out
        rw [hRn]
        refine ⟨rfl, ?_⟩
        have k2 := HJ.out.1.old hBW0 ((KeptIn.refl _ W).alloc (fun _ h => h) (.cells #[.int .u64 (kk : Int), .int .u64 (vv : Int)] 38))
        have k3 := k2.old (Nat.le_trans hBW0 (by simp)) HK.out
        have k4 := k3.2.alloc (fun k hk => by rw [HB.out]; exact hk) (.cells #[.int .i64 0, .int .i64 0, .int .i64 0, .bool false, .int .i64 0] 60)
        rw [← HB.out] at k4
        exact H.out.2.2.go k4
      | some u =>
        obtain ⟨i2, s2, r2, p2, f2⟩ := u
        unfold ReadS at HRD
        simp only [Option.getD_some, Option.isSome_some] at HRD
        unfold volV at HRD
        simp only at HRD
        have HJJ : Hid (∀ {V Y : World}, KeptIn (· < (W.alloc (.cells #[.int .u64 (kk : Int), .int .u64 (vv : Int)] 38)).heap.size) (W.alloc (.cells #[.int .u64 (kk : Int), .int .u64 (vv : Int)] 38)) V → KeptIn (· < V.heap.size) V Y → B ≤ V.heap.size ∧ VfJ B V1 out v0 Y) := Lib.hid fun hk hka => by
          have k1 : KeptIn (· < W.heap.size) W (W.alloc (.cells #[.int .u64 (kk : Int), .int .u64 (vv : Int)] 38)) := (KeptIn.refl _ W).alloc (fun _ h => h) _
          have k2 := k1.go hk
          exact ⟨Nat.le_trans hBW0 k2.size, (HJ.out.1.old hBW0 k2).old (Nat.le_trans hBW0 k2.size) hka⟩
        have HJT : Hid (volsOf (ps.take (j + 1)) = some (out ++ [⟨i2, s2, r2, p2, f2⟩])) := Lib.hid (by rw [HT.out.1, volsOf_snoc, HJ.out.2, HRV.out]; rfl)
        clear HT HRV
        go_wp2_with (first
          | (go_at_call 24; refine (HRD.out _).mono ?_; rintro e V ⟨rfl, hk⟩; have hka : KeptIn (· < V.heap.size) V (V.alloc (.cells #[.int .i64 i2, .int .i64 s2, .int .i64 r2, .bool p2, .int .i64 f2] 60)) := (KeptIn.refl _ V).alloc (fun _ h => h) _; have HJ9 := Lib.hid (HJJ.out hk hka); have hBW : B ≤ (V.alloc (.cells #[.int .i64 i2, .int .i64 s2, .int .i64 r2, .bool p2, .int .i64 f2] 60)).heap.size := Nat.le_trans HJ9.out.1 hka.size; have HNB := Lib.hid (vm_new V (.cells #[.int .i64 i2, .int .i64 s2, .int .i64 r2, .bool p2, .int .i64 f2] 60)); clear hk hka)
          | (at_builtin; refine wpList_append_own _ rfl _ _ 73 rfl B 60 ii _ 5 40 Try.underlying73 hii hz0 hz1 hz2 rfl (by decide) _ _ _ rfl (HJ9.out.2.1.alloc _) ⟨V.heap.size + 1, 0, none⟩ 1 1 [.int .i64 i2, .int .i64 s2, .int .i64 r2, .bool p2, .int .i64 f2] rfl rfl (World.news_of_block (cs := #[.int .i64 i2, .int .i64 s2, .int .i64 r2, .bool p2, .int .i64 f2]) (t := 60) (fr := (0, 0)) HNB.out) (by simp [Value.oneCell']) hb1 hb2 (by rw [World.size_alloc]; exact Nat.le_succ_of_le hBW) ?_))
        intro v' w8 hown hgrow _
        have HJ2 : Hid (VfJ B V1 (out ++ [⟨i2, s2, r2, p2, f2⟩]) v' w8 ∧ volsOf (ps.take (j + 1)) = some (out ++ [⟨i2, s2, r2, p2, f2⟩])) := Lib.hid ⟨HJ9.out.2.next (u := ⟨i2, s2, r2, p2, f2⟩) HB.out hown hgrow, HJT.out⟩
        clear hown hgrow HJ HJ9 HJT HJJ hb1 hb2 c1 c2 hBW
        go_wp2_with fail
        go_roundw
        case rel => exact ⟨j + 1, _, _, _, rfl, rfl, by omega, by go_num, HJ2⟩
        case measure => simp only [intOf]; omega
    · have d1 : ¬ (j : Int) < (n : Int) := by omega
      have HE : Hid (VlS w R (.returned (.tuple #[v0, .int .i64 0])) W) := Lib.hid (by
        have h1 := HJ.out.2
        rw [List.take_of_length_le (by rw [HN.out]; omega), HRR.out] at h1
        rw [h1]
        have hk9 := HJ.out.1.2
        rw [← HB.out] at hk9
        exact ⟨v0, rfl, row_weakenV HJ.out.1.1 (by rw [← HB.out]; exact H.out.2.2.size), H.out.2.2.go hk9⟩)
      clear HJ
      go_wp2_with fail
      go_ret2
      exact HE.out

end Go.Proofs.Ytlnlgapjlekehaa
