import Derived.Test.YtdbohcdjamhdjaaLn9W
import Derived.Test.YtdbohcdjamhdjaaRsl8W
import Derived.Deep.Cut
import Derived.Deep.RegionHeld3
/- The reference's look at whatever nodes: a leaf. -/
set_option linter.unusedVariables false
namespace Go.Proofs.Ytdbohcdjamhdjaa
open Go.RowKit


set_option maxRecDepth 100000 in
set_option maxHeartbeats 4000000 in
theorem r8lookLeaf {NA : List NdA} {s H T B0 ix p cap : Nat} {X : Nat → Prop} {root has : Bool} {lv : Int} {lo hig : Nat} {ps qs : Pairs} {w : World} {pv qv : Value} {ms : List Int} {la : Option Addr} (h : LkAt w T B0 pv qv ms qs) (hqs : qs.length ≤ 15 * ms.length) (hpq : ∀ k, X k → qv.ownBlock ≠ some k) (hp : PrB w T X) (hsh : IsShA w s H NA) (hD : H ≤ T) (hla : w.cell? ⟨s, 0, none⟩ = some (.slice la NA.length cap)) (hix : ix < NA.length) (hqi : ix + 1 = p) (hnd : NA[ix] = (0, ps)) (hin : (p : Int) ∉ ms) (hml : ms.length ≤ 510) {hi : Nat} (hlv : if root = true then lv = -1 else 0 ≤ lv) (hen : EntA root lv lo (0, ps)) (hhas : (root = false ∧ has = true ∧ hi + 1 = hig) ∨ (has = false ∧ hi = 18446744073709551615))
    {o : Option (List Int)} (hO1 : (∀ i, i < ps.length → keyAt ps i ≤ hi) → o = some (ms ++ [(p : Int)])) (hO2 : ∀ i, i < ps.length → hi < keyAt ps i → o = none) :
    Calls Try.prog 35 #[.pointer (some ⟨T, 0, none⟩), .slice la NA.length cap, .int .i64 (p : Int), .int .i64 lv, .int .u64 (lo : Int), .bool has, .int .u64 (hig : Int)] w (LkR w T B0 X o) := by
  have HEN := Lib.hid (And.intro hen (And.intro hlv hhas))
  have HO := Lib.hid (And.intro hO1 hO2)
  clear hlv hen hhas hO1 hO2
  obtain ⟨b, off, rfl, hbH, hnode⟩ := lk_nodeG h hsh hD hla hix
  rw [hnd] at hnode
  have h20 : ps.length ≤ 1000 := by have := hsh.small ix hix; rw [hnd] at this; exact this
  have hN := hsh.len
  obtain ⟨a, pc, rfl⟩ := row_sliceI h.prow
  obtain ⟨m, hm⟩ : ∃ m, ms.length = m := ⟨_, rfl⟩
  rw [hm] at h hml
  obtain ⟨p1, p2, p3, p4, p5, p6⟩ := lk_in (p := p) (n := NA.length) (by omega) (by omega) hN
  have c0 := h.c0
  have c2 := h.c2
  have hI : IntsL w a ms := by
    have h1 := h.prow
    rw [← hm] at h1
    exact rowIntsL h1 (by unfold maxLen; omega)
  obtain ⟨nn, hnn⟩ : ∃ nn, NA.length = nn := ⟨_, rfl⟩
  have hmI : (m : Int) ≤ 511 := by omega
  have HI := Lib.hid (And.intro hI (And.intro hin hm))
  have HPX := Lib.hid (And.intro hp hpq)
  have HH := Lib.hid (And.intro hsh (And.intro hD (And.intro hml (And.intro hqs (And.intro hN h)))))
  have HNN := Lib.hid hnn
  have HQI := Lib.hid (And.intro hqi (And.intro hix (And.intro hbH (And.intro h20 hnode))))
  rw [hnn] at hla p3 p4 p6 ⊢
  have HL := Lib.hid hla
  clear hI hm hin hsh hD hml h hla hnn hp hpq hqs hnode hqi hix hN hbH hnd h20
  go_enter Try.func35, Try.ntmps35
  go_wp2_with fail
  go_loopw [14] (fun i wr => ∃ (j : Nat), w = wr ∧ j ≤ m ∧ i = .int .i64 (j : Int)) (fun i _ => m - (RowKit.intOf i).toNat)
  case atStart => exact ⟨0, rfl, Nat.zero_le _, rfl⟩
  case round =>
    obtain ⟨j, rfl, hj, rfl⟩ := hrel
    by_cases hlt : j < m
    · have d0 : (0 : Int) ≤ (j : Int) := by omega
      have d1 : (j : Int) < (m : Int) := by omega
      have hjm : j < ms.length := by rw [HI.out.2.2]; exact hlt
      obtain ⟨gb, off2, rfl, hb, hc⟩ := HI.out.1.cells (by omega)
      have y0 := hc j hjm
      have hxp : ms.getD j 0 ≠ (p : Int) := fun e => HI.out.2.1 (by rw [← e, List.getD_eq_getElem?_getD, List.getElem?_eq_getElem hjm, Option.getD_some]; exact List.getElem_mem hjm)
      obtain ⟨x, hx⟩ : ∃ x, ms.getD j 0 = x := ⟨_, rfl⟩
      rw [hx] at y0 hxp
      have x1 : (x == (p : Int)) = false := by rw [beq_eq_false_iff_ne]; exact hxp
      clear hc hjm hx hb
      go_wp2_with fail
      go_roundw
      case rel => exact ⟨j + 1, trivial, by omega, by go_num⟩
      case measure => simp only [RowKit.intOf]; omega
    · have d1 : ¬ (j : Int) < (m : Int) := by omega
      obtain ⟨hqi, hix, hbH, h20, hnode⟩ := HQI.out
      have hml : m ≤ 510 := HH.out.2.2.1
      have hrow := HH.out.2.2.2.2.2.prow
      have hBw := HH.out.2.2.2.2.2.le
      obtain ⟨ip, hip, hp0, hp1, hp2⟩ := info_parts infoInt8
      go_wp2_with (at_builtin; refine wpList_append_own _ rfl _ _ 23 rfl B0 3 ip _ 1 8 Try.underlying23 hip hp0 hp1 hp2 rfl (by decide) _ _ _ rfl (hrow.alloc _) ⟨w.heap.size, 0, none⟩ 1 1 [.int .i64 (p : Int)] rfl rfl (World.news_of_block (cs := #[.int .i64 (p : Int)]) (t := 3) (fr := (0, 0)) (heap_alloc_new w _)) (by simp [Value.oneCell']) (by unfold maxLen; have := HI.out.2.2; omega) (by have := HI.out.2.2; omega) (by rw [World.size_alloc]; exact Nat.le_succ_of_le hBw) ?_)
      intro v' w8 hown hgrow _
      rw [HI.out.2.2] at hown
      obtain ⟨av, cv, rfl⟩ := row_sliceI hown
      obtain ⟨⟨z0, z1⟩, hat, hkp⟩ := lk_page HH.out.2.2.2.2.2 HI.out.2.2 hgrow hown
      have hk9 := lk_kept (T := T) (i := 0) (u := .slice av (m + 1) cv) hgrow
      have hpk : ∀ k, X k → (w8.setCell ⟨T, 0, none⟩ (.slice av (m + 1) cv)).heap[k]? = w.heap[k]? := fun k hk => hk9.block k ⟨(HPX.out.1 k hk).1, (HPX.out.1 k hk).2.1, by
        obtain ⟨cs, fr, h9⟩ := (HPX.out.1 k hk).2.2
        exact rowS_ne HH.out.2.2.2.2.2.prow h9 (by decide)⟩
      clear hk9
      obtain ⟨a2, c2', n1, n2, n3', n4'⟩ := hnode _ hkp
      replace n1 : (w8.setCell ⟨T, 0, none⟩ (.slice av (m + 1) cv)).cell? ⟨b, off + ix * 2, none⟩ = some (.int .i64 0) := n1
      replace n2 : (w8.setCell ⟨T, 0, none⟩ (.slice av (m + 1) cv)).cell? ⟨b, off + ix * 2 + 1, none⟩ = some (.slice a2 ps.length c2') := n2
      have n3 : IsPs (w8.setCell ⟨T, 0, none⟩ (.slice av (m + 1) cv)) a2 ps := n3'
      have n4 : 0 < ps.length → ∀ p, a2 = some p → p.block < H := n4'
      clear n3' n4'
      obtain ⟨-, -, i3⟩ := lk_idx hqi (by have := HH.out.2.2.2.2.1; omega)
      have i4 : (0 : Int) ≤ (ix : Int) := by omega
      have i5 : (ix : Int) < (nn : Int) := by have := HNN.out; omega
      obtain ⟨W2, hW2⟩ : ∃ W2, w8.setCell ⟨T, 0, none⟩ (.slice av (m + 1) cv) = W2 := ⟨_, rfl⟩
      obtain ⟨np, hnp⟩ : ∃ np, ps.length = np := ⟨_, rfl⟩
      have HGD : Hid (∀ V, KeptIn (· < W2.heap.size) W2 V → Calls Try.prog 45 #[leafV 0 a2 np c2'] V fun e w' => e = .returned (.bool (goodN 0 ps)) ∧ KeptIn (· < V.heap.size) V w') := Lib.hid fun V hk => by
        have := r5Good 0 a2 c2' ps V (by rw [← hW2] at hk; exact n3.old hk)
        rw [hnp] at this
        exact this
      obtain ⟨y, hy⟩ : ∃ y, w8.heap.size = y := ⟨_, rfl⟩
      have hy2 : W2.heap.size = y := by rw [← hW2, ← hy]; simp
      rw [hnp] at n2
      rw [hW2] at hat hkp n1 n2 n3 hpk
      have HV : Hid (∀ V, KeptIn (· < (W2.alloc (.cells #[.int .i64 0, .slice a2 np c2'] 27)).heap.size) (W2.alloc (.cells #[.int .i64 0, .slice a2 np c2'] 27)) V → BoxL y 0 a2 np c2' V ∧ IsPs V a2 ps ∧ KeptIn (· < W2.heap.size) W2 V) := Lib.hid fun V hk => by
        have hka : KeptIn (· < W2.heap.size) W2 (W2.alloc (.cells #[.int .i64 0, .slice a2 np c2'] 27)) := (KeptIn.refl _ W2).alloc (fun _ h => h) _
        have hkv := hka.go hk
        refine ⟨?_, n3.old hkv, hkv⟩
        have hb := BoxL.new W2 0 a2 np c2'
        rw [hy2] at hb
        exact hb.kept hk hb.lt
      have HA := Lib.hid (And.intro hat (And.intro hkp (And.intro n3 (And.intro n4 hpk))))
      have HNP := Lib.hid hnp
      clear hat hkp n3 n4 hnode hown hgrow hrow hBw hip hp0 hp1 hp2 hnp hpk hqi hix hbH h20
      unfold leafV at HGD
      have HK0 : Hid (∀ ab ao, a2 = some ⟨ab, ao, none⟩ → ∀ V, IsPs V a2 ps → ∀ i, i < np → V.cell? ⟨ab, ao + i * 2, none⟩ = some (.int .u64 (keyAt ps i : Int)) ∧ V.cell? ⟨ab, ao + i * 2 + 1, none⟩ = some (.int .u64 (valAt ps i : Int))) := Lib.hid fun ab ao e V hV i hi => by
        have hl := HNP.out
        obtain ⟨b9, o9, e9, _, h9⟩ := hV.cells (by omega)
        rw [e] at e9
        cases e9
        exact h9 i (by omega)
      have hnpI : (np : Int) ≤ 1000 := by have := HNP.out; have := HQI.out.2.2.2.1; omega
      obtain ⟨i6, -⟩ := lk_idx9 (show ix ≤ 511 by have h1 := HQI.out.2.1; have h2 := HH.out.2.2.2.2.1; omega)
      obtain ⟨hg, h0', hrt⟩ := HEN.out.1
      rw [show goodN 0 ps = true from hg] at HGD
      obtain ⟨ab, ao, e2, _, _⟩ := HA.out.2.2.1.cells h0'
      have HLO : Hid (ab < T) := Lib.hid (Nat.lt_of_lt_of_le (HA.out.2.2.2.1 h0' _ e2) HH.out.2.1)
      subst e2
      have HL15 : Hid (ps.length ≤ 15) := Lib.hid (good_parts hg).2.2
      have h0 : 0 < np := by rw [← HNP.out]; exact h0'
      have hnp1 : (0 : Int) < (np : Int) := by omega
      have hnp2 : ((np : Int) == 0) = false := by rw [beq_eq_false_iff_ne]; omega
      have hnp3 : ¬ (np : Int) = 0 := by omega
      have hnp4 : decide ((np : Int) = 0) = false := decide_eq_false hnp3
      have HFT : Hid (∀ i, i < np → keyAt ps i < 18446744073709551616) := Lib.hid fun i hi => (HA.out.2.2.1.fits.at (by rw [HNP.out]; exact hi)).1
      have hnpJ : (np : Int) ≤ 15 := by have := HNP.out; have := HL15.out; omega
      cases root with
      | true =>
        obtain rfl : lv = -1 := by simpa using HEN.out.2.1
        obtain ⟨rfl, h9⟩ : has = false ∧ hi = 18446744073709551615 := by
          rcases HEN.out.2.2 with h | h
          · cases h.1
          · exact h
        have HHI := Lib.hid h9
        clear hg h0' hrt h0 h9
        go_wp2_with (first
          | (go_at_call 45; refine (HGD.out _ ((KeptIn.refl _ _).alloc (fun _ h => h) _)).mono ?_; rintro e V ⟨rfl, hk⟩; have HVV := Lib.hid (HV.out V hk); have y0 := HVV.out.1.c0; have y1 := HVV.out.1.c1; clear hk))
        have HF0 : Hid (LkF w T B0 y ab ao np c2' 0 ps X (.slice av (m + 1) cv) qv (ms ++ [(p : Int)]) (qs ++ ps.take 0) V) := Lib.hid ⟨by simpa using HA.out.1.old HVV.out.2.2, HVV.out.1, HVV.out.2.1, HLO.out, lky_trans HA.out.2.1 (lky_old HVV.out.2.2), fun k hk => (HVV.out.2.2.block k (Nat.lt_of_lt_of_le (HPX.out.1 k hk).1 HA.out.2.1.size)).trans (HA.out.2.2.2.2 k hk), HPX.out.2⟩
        clear y0 y1
        go_loopw [16, 17] (fun i _ wr => ∃ (j : Nat) (Z : World) (qw : Value), Z = wr ∧ j ≤ np ∧ i = .int .i64 (j : Int) ∧ Hid (∀ u, u < j → keyAt ps u ≤ hi) ∧ Hid (LkF w T B0 y ab ao np c2' 0 ps X (.slice av (m + 1) cv) qw (ms ++ [(p : Int)]) (qs ++ ps.take j) Z)) (fun i _ _ => np - (RowKit.intOf i).toNat)
        case atStart => exact ⟨0, _, _, rfl, Nat.zero_le _, rfl, Lib.hid fun u hu => absurd hu (by omega), HF0⟩
        case round =>
          obtain ⟨j2, Z, qw, rfl, hj2, rfl, HU, HJ⟩ := hrel
          clear HF0 HVV
          have y0 := HJ.out.leaf.c0
          have y1 := HJ.out.leaf.c1
          by_cases hlt2 : j2 < np
          · have d3 : (0 : Int) ≤ (j2 : Int) := by omega
            have d4 : (j2 : Int) < (np : Int) := by omega
            obtain ⟨x0, x1⟩ := HK0.out ab ao rfl Z HJ.out.isps j2 hlt2
            obtain ⟨kk, hkk⟩ : ∃ kk, keyAt ps j2 = kk := ⟨_, rfl⟩
            obtain ⟨vv, hvv⟩ : ∃ vv, valAt ps j2 = vv := ⟨_, rfl⟩
            rw [hkk] at x0
            rw [hvv] at x1
            have HKV := Lib.hid (And.intro hkk hvv)
            obtain ⟨xb, hxb⟩ : ∃ xb, Z.heap.size = xb := ⟨_, rfl⟩
            obtain ⟨X2, hX2⟩ : ∃ X2, Z.alloc (.cells #[.int .u64 (kk : Int), .int .u64 (vv : Int)] 82) = X2 := ⟨_, rfl⟩
            have HJ2 : Hid (LkF w T B0 y ab ao np c2' 0 ps X (.slice av (m + 1) cv) qw (ms ++ [(p : Int)]) (qs ++ ps.take j2) X2) := Lib.hid (by rw [← hX2]; exact HJ.out.old (fun k hk => (HPX.out.1 k hk).1) ((KeptIn.refl _ Z).alloc (fun _ h => h) _))
            have hbx : X2.heap[xb]? = some (.cells #[.int .u64 (kk : Int), .int .u64 (vv : Int)] 82 (0, 0)) := by rw [← hX2, ← hxb]; exact heap_alloc_new Z _
            have w0 : X2.cell? ⟨xb, 0, none⟩ = some (.int .u64 (kk : Int)) := (cell_of_row _ _ 0 _ _ _ hbx).trans rfl
            have w1 : X2.cell? ⟨xb, 1, none⟩ = some (.int .u64 (vv : Int)) := (cell_of_row _ _ 1 _ _ _ hbx).trans rfl
            have t0 := HJ2.out.leaf.c0
            have t1 := HJ2.out.leaf.c1
            have t2 := HJ2.out.lk.c1
            have t3 := HJ2.out.lk.c0
            have HLT := Lib.hid hlt2
            have HTS : Hid (qs ++ ps.take (j2 + 1) = (qs ++ ps.take j2) ++ [(kk, vv)]) := Lib.hid (by rw [take_snocQ ps j2 (by rw [HNP.out]; exact hlt2), hkk, hvv, List.append_assoc])
            have hfitk := HFT.out j2 hlt2
            rw [hkk] at hfitk
            clear hkk hvv hbx
            have HU2 : Hid (∀ u, u < j2 + 1 → keyAt ps u ≤ hi) := Lib.hid fun u hu => by
              rcases Nat.lt_or_ge u j2 with h | h
              · exact HU.out u h
              · obtain rfl : u = j2 := by omega
                rw [HKV.out.1]
                have := HHI.out
                omega
            go_wp2_with fail
            obtain ⟨ii, hii, hz0, hz1, hz2⟩ := info_parts infoPair
            obtain ⟨rn, hrn⟩ : ∃ rn, (qs ++ ps.take j2).length = rn := ⟨_, rfl⟩
            have hrn2 : rn ≤ 10000 := by
              have h1 := HH.out.2.2.2.1
              have h4 := HI.out.2.2
              have h5 := HH.out.2.2.1
              have h3 := HL15.out
              have h2 : (ps.take j2).length ≤ ps.length := by rw [List.length_take]; omega
              rw [← hrn, List.length_append]
              omega
            obtain ⟨qa, qc, rfl, _⟩ := row_slice HJ2.out.lk.qrow
            rw [hrn] at HJ2 t2
            have HL3 : Hid (LkF w T B0 y ab ao np c2' 0 ps X (.slice av (m + 1) cv) (.slice qa rn qc) (ms ++ [(p : Int)]) (qs ++ ps.take j2) X2.drew) := Lib.hid (HJ2.out.old (fun k hk => (HPX.out.1 k hk).1) (KeptIn.refl _ X2).drew)
            have w0' : X2.drew.cell? ⟨xb, 0, none⟩ = some (.int .u64 (kk : Int)) := w0
            have w1' : X2.drew.cell? ⟨xb, 1, none⟩ = some (.int .u64 (vv : Int)) := w1
            have t2' : X2.drew.cell? ⟨T, 1, none⟩ = some (.slice qa rn qc) := t2
            obtain ⟨X3, hX3⟩ : ∃ X3, X2.drew = X3 := ⟨_, rfl⟩
            rw [hX3] at HL3 w0' w1' t2'
            have hrow8 : X3.ownsRow B0 82 2 (.slice qa rn qc) rn (cellsP (qs ++ ps.take j2)) := by have := HL3.out.lk.qrow; rw [hrn] at this; exact this
            have hsz8 : B0 ≤ X3.heap.size := HL3.out.lk.le
            have cc8 : (X3.alloc (.cells #[.int .u64 (kk : Int), .int .u64 (vv : Int)] 82)).cell? ⟨T, 1, none⟩ = some (.slice qa rn qc) := (World.cell?_of_block (a := ⟨T, 1, none⟩) (Lib.alloc_old X3 _ _ (Nat.lt_of_lt_of_le HL3.out.lk.lt hsz8))).trans t2'
            have hgr8 : ∀ (gg cap' : Nat) (w1 : World), (X3.alloc (.cells #[.int .u64 (kk : Int), .int .u64 (vv : Int)] 82)).grownBy w1 (Value.slice qa rn qc).ownBlock → w1.ownsRow B0 82 2 (.slice (some ⟨gg, 0, none⟩) (rn + 1) cap') (rn + 1) (cellsP (qs ++ ps.take j2) ++ [.int .u64 (kk : Int), .int .u64 (vv : Int)]) → ((Value.slice qa rn qc).ownBlock = some gg ∨ gg = X3.heap.size + 1) → (w1.cell? ⟨T, 1, none⟩ = some (.slice qa rn qc) ∧ w1.frozen? ⟨T, 1, none⟩ = false) ∧ Hid (LkF w T B0 y ab ao np c2' 0 ps X (.slice av (m + 1) cv) (.slice (some ⟨gg, 0, none⟩) (rn + 1) cap') (ms ++ [(p : Int)]) ((qs ++ ps.take j2) ++ [(kk, vv)]) (w1.setCell ⟨T, 1, none⟩ (.slice (some ⟨gg, 0, none⟩) (rn + 1) cap'))) := fun gg cap' w1 hg ho ha => by
              obtain ⟨f1, f2, f3⟩ := lk_pair HL3.out.lk hrn hg ho
              have hk9 := lk_kept (T := T) (i := 1) (u := .slice (some ⟨gg, 0, none⟩) (rn + 1) cap') hg
              have hle : ∀ k, X k → k < X3.heap.size := fun k hk => Nat.lt_of_lt_of_le (HPX.out.1 k hk).1 HL3.out.kept.size
              refine ⟨f1, Lib.hid (HL3.out.go f3 f2 (fun k hk => hk9.block k ⟨hle k hk, (HPX.out.1 k hk).2.1, HL3.out.pq k hk⟩) (fun k hk e => ?_))⟩
              have e2 : gg = k := by simpa [Value.ownBlock] using e
              rcases ha with h | h
              · rw [e2] at h
                exact HL3.out.pq k hk h
              · have := hle k hk
                omega
            have hTB : T < B0 := HL3.out.lk.lt
            clear HJ HJ2 t0 t1 w0 w1 t2 t3 y0 y1 x0 x1
            clear hX2
            go_region_law (first
              | (refine step_append_lies _ (by rfl) _ _ 25 (by rfl) B0 82 ii _ 2 16 Try.underlying25 hii hz0 hz1 hz2 rfl (by omega) (.slice qa rn qc) rn _ (by rfl) (hrow8.alloc _) ⟨X3.heap.size, 0, none⟩ 1 1 [.int .u64 (kk : Int), .int .u64 (vv : Int)] (by rfl) (by rfl) (World.news_of_block (cs := #[.int .u64 (kk : Int), .int .u64 (vv : Int)]) (t := 82) (fr := (0, 0)) (heap_alloc_new X3 _)) (by simp [Value.oneCell']) (by omega) (by unfold maxLen; omega) (by omega) (by simp; omega) (X3.heap.size + 1) (by simp) ?_; intro gg cap' w1 hown1 hgrow hat hlt1; obtain ⟨⟨e0', ef⟩, hmm⟩ := hgr8 gg cap' w1 hgrow hown1 hat))
            all_goals
              clear hgr8 hrow8 cc8
              go_wp2_with fail
              go_roundw
              case rel => exact ⟨j2 + 1, _, _, rfl, by have := HLT.out; omega, by go_num, HU2, by rw [HTS.out]; exact hmm⟩
              case measure => have := HLT.out; simp only [RowKit.intOf]; omega
          · have d4 : ¬ (j2 : Int) < (np : Int) := by omega
            have htk : ps.take j2 = ps := List.take_of_length_le (by rw [HNP.out]; omega)
            have HE : Hid (LkR w T B0 X o (.returned (.tuple #[])) Z) := Lib.hid (by
              rw [HO.out.1 fun u hu => HU.out u (by have := HNP.out; omega)]
              have h1 := HJ.out.lk
              rw [htk] at h1
              refine ⟨rfl, ⟨_, _, _, h1, ?_, HJ.out.pq⟩, HJ.out.kept, HJ.out.pk⟩
              have h2 := HH.out.2.2.2.1
              have h3 := HL15.out
              rw [List.length_append, List.length_append, List.length_singleton]
              omega)
            clear HJ htk
            go_wp2_with fail
            go_end0
            exact HE.out
      | false =>
        have hlv0 : 0 ≤ lv := by simpa using HEN.out.2.1
        obtain ⟨hll, hkl⟩ : (0 : Int) = lv ∧ keyAt ps 0 = lo := by simpa using hrt
        subst hll
        have HQ0 : Hid (∀ V, IsPs V (some ⟨ab, ao, none⟩) ps → V.cell? ⟨ab, ao, none⟩ = some (.int .u64 (lo : Int))) := Lib.hid fun V hV => by
          have := (HK0.out ab ao rfl V hV 0 h0).1
          rw [hkl] at this
          simpa using this
        clear hg h0' hrt h0 hkl hlv0
        go_wp2_with (first
          | (go_at_call 45; refine (HGD.out _ ((KeptIn.refl _ _).alloc (fun _ h => h) _)).mono ?_; rintro e V ⟨rfl, hk⟩; have HVV := Lib.hid (HV.out V hk); have y0 := HVV.out.1.c0; have y1 := HVV.out.1.c1; have q0 := HQ0.out V HVV.out.2.1; clear hk))
        cases has with
        | false =>
          have HHI := Lib.hid (show hi = 18446744073709551615 by
            rcases HEN.out.2.2 with h | h
            · cases h.2.1
            · exact h.2)
          have HF0 : Hid (LkF w T B0 y ab ao np c2' 0 ps X (.slice av (m + 1) cv) qv (ms ++ [(p : Int)]) (qs ++ ps.take 0) V) := Lib.hid ⟨by simpa using HA.out.1.old HVV.out.2.2, HVV.out.1, HVV.out.2.1, HLO.out, lky_trans HA.out.2.1 (lky_old HVV.out.2.2), fun k hk => (HVV.out.2.2.block k (Nat.lt_of_lt_of_le (HPX.out.1 k hk).1 HA.out.2.1.size)).trans (HA.out.2.2.2.2 k hk), HPX.out.2⟩
          clear y0 y1
          go_loopw [16, 17] (fun i _ wr => ∃ (j : Nat) (Z : World) (qw : Value), Z = wr ∧ j ≤ np ∧ i = .int .i64 (j : Int) ∧ Hid (∀ u, u < j → keyAt ps u ≤ hi) ∧ Hid (LkF w T B0 y ab ao np c2' 0 ps X (.slice av (m + 1) cv) qw (ms ++ [(p : Int)]) (qs ++ ps.take j) Z)) (fun i _ _ => np - (RowKit.intOf i).toNat)
          case atStart => exact ⟨0, _, _, rfl, Nat.zero_le _, rfl, Lib.hid fun u hu => absurd hu (by omega), HF0⟩
          case round =>
            obtain ⟨j2, Z, qw, rfl, hj2, rfl, HU, HJ⟩ := hrel
            clear HF0 HVV
            have y0 := HJ.out.leaf.c0
            have y1 := HJ.out.leaf.c1
            by_cases hlt2 : j2 < np
            · have d3 : (0 : Int) ≤ (j2 : Int) := by omega
              have d4 : (j2 : Int) < (np : Int) := by omega
              obtain ⟨x0, x1⟩ := HK0.out ab ao rfl Z HJ.out.isps j2 hlt2
              obtain ⟨kk, hkk⟩ : ∃ kk, keyAt ps j2 = kk := ⟨_, rfl⟩
              obtain ⟨vv, hvv⟩ : ∃ vv, valAt ps j2 = vv := ⟨_, rfl⟩
              rw [hkk] at x0
              rw [hvv] at x1
              have HKV := Lib.hid (And.intro hkk hvv)
              obtain ⟨xb, hxb⟩ : ∃ xb, Z.heap.size = xb := ⟨_, rfl⟩
              obtain ⟨X2, hX2⟩ : ∃ X2, Z.alloc (.cells #[.int .u64 (kk : Int), .int .u64 (vv : Int)] 82) = X2 := ⟨_, rfl⟩
              have HJ2 : Hid (LkF w T B0 y ab ao np c2' 0 ps X (.slice av (m + 1) cv) qw (ms ++ [(p : Int)]) (qs ++ ps.take j2) X2) := Lib.hid (by rw [← hX2]; exact HJ.out.old (fun k hk => (HPX.out.1 k hk).1) ((KeptIn.refl _ Z).alloc (fun _ h => h) _))
              have hbx : X2.heap[xb]? = some (.cells #[.int .u64 (kk : Int), .int .u64 (vv : Int)] 82 (0, 0)) := by rw [← hX2, ← hxb]; exact heap_alloc_new Z _
              have w0 : X2.cell? ⟨xb, 0, none⟩ = some (.int .u64 (kk : Int)) := (cell_of_row _ _ 0 _ _ _ hbx).trans rfl
              have w1 : X2.cell? ⟨xb, 1, none⟩ = some (.int .u64 (vv : Int)) := (cell_of_row _ _ 1 _ _ _ hbx).trans rfl
              have t0 := HJ2.out.leaf.c0
              have t1 := HJ2.out.leaf.c1
              have t2 := HJ2.out.lk.c1
              have t3 := HJ2.out.lk.c0
              have HLT := Lib.hid hlt2
              have HTS : Hid (qs ++ ps.take (j2 + 1) = (qs ++ ps.take j2) ++ [(kk, vv)]) := Lib.hid (by rw [take_snocQ ps j2 (by rw [HNP.out]; exact hlt2), hkk, hvv, List.append_assoc])
              have hfitk := HFT.out j2 hlt2
              rw [hkk] at hfitk
              clear hkk hvv hbx
              have HU2 : Hid (∀ u, u < j2 + 1 → keyAt ps u ≤ hi) := Lib.hid fun u hu => by
                rcases Nat.lt_or_ge u j2 with h | h
                · exact HU.out u h
                · obtain rfl : u = j2 := by omega
                  rw [HKV.out.1]
                  have := HHI.out
                  omega
              go_wp2_with fail
              obtain ⟨ii, hii, hz0, hz1, hz2⟩ := info_parts infoPair
              obtain ⟨rn, hrn⟩ : ∃ rn, (qs ++ ps.take j2).length = rn := ⟨_, rfl⟩
              have hrn2 : rn ≤ 10000 := by
                have h1 := HH.out.2.2.2.1
                have h4 := HI.out.2.2
                have h5 := HH.out.2.2.1
                have h3 := HL15.out
                have h2 : (ps.take j2).length ≤ ps.length := by rw [List.length_take]; omega
                rw [← hrn, List.length_append]
                omega
              obtain ⟨qa, qc, rfl, _⟩ := row_slice HJ2.out.lk.qrow
              rw [hrn] at HJ2 t2
              have HL3 : Hid (LkF w T B0 y ab ao np c2' 0 ps X (.slice av (m + 1) cv) (.slice qa rn qc) (ms ++ [(p : Int)]) (qs ++ ps.take j2) X2.drew) := Lib.hid (HJ2.out.old (fun k hk => (HPX.out.1 k hk).1) (KeptIn.refl _ X2).drew)
              have w0' : X2.drew.cell? ⟨xb, 0, none⟩ = some (.int .u64 (kk : Int)) := w0
              have w1' : X2.drew.cell? ⟨xb, 1, none⟩ = some (.int .u64 (vv : Int)) := w1
              have t2' : X2.drew.cell? ⟨T, 1, none⟩ = some (.slice qa rn qc) := t2
              obtain ⟨X3, hX3⟩ : ∃ X3, X2.drew = X3 := ⟨_, rfl⟩
              rw [hX3] at HL3 w0' w1' t2'
              have hrow8 : X3.ownsRow B0 82 2 (.slice qa rn qc) rn (cellsP (qs ++ ps.take j2)) := by have := HL3.out.lk.qrow; rw [hrn] at this; exact this
              have hsz8 : B0 ≤ X3.heap.size := HL3.out.lk.le
              have cc8 : (X3.alloc (.cells #[.int .u64 (kk : Int), .int .u64 (vv : Int)] 82)).cell? ⟨T, 1, none⟩ = some (.slice qa rn qc) := (World.cell?_of_block (a := ⟨T, 1, none⟩) (Lib.alloc_old X3 _ _ (Nat.lt_of_lt_of_le HL3.out.lk.lt hsz8))).trans t2'
              have hgr8 : ∀ (gg cap' : Nat) (w1 : World), (X3.alloc (.cells #[.int .u64 (kk : Int), .int .u64 (vv : Int)] 82)).grownBy w1 (Value.slice qa rn qc).ownBlock → w1.ownsRow B0 82 2 (.slice (some ⟨gg, 0, none⟩) (rn + 1) cap') (rn + 1) (cellsP (qs ++ ps.take j2) ++ [.int .u64 (kk : Int), .int .u64 (vv : Int)]) → ((Value.slice qa rn qc).ownBlock = some gg ∨ gg = X3.heap.size + 1) → (w1.cell? ⟨T, 1, none⟩ = some (.slice qa rn qc) ∧ w1.frozen? ⟨T, 1, none⟩ = false) ∧ Hid (LkF w T B0 y ab ao np c2' 0 ps X (.slice av (m + 1) cv) (.slice (some ⟨gg, 0, none⟩) (rn + 1) cap') (ms ++ [(p : Int)]) ((qs ++ ps.take j2) ++ [(kk, vv)]) (w1.setCell ⟨T, 1, none⟩ (.slice (some ⟨gg, 0, none⟩) (rn + 1) cap'))) := fun gg cap' w1 hg ho ha => by
                obtain ⟨f1, f2, f3⟩ := lk_pair HL3.out.lk hrn hg ho
                have hk9 := lk_kept (T := T) (i := 1) (u := .slice (some ⟨gg, 0, none⟩) (rn + 1) cap') hg
                have hle : ∀ k, X k → k < X3.heap.size := fun k hk => Nat.lt_of_lt_of_le (HPX.out.1 k hk).1 HL3.out.kept.size
                refine ⟨f1, Lib.hid (HL3.out.go f3 f2 (fun k hk => hk9.block k ⟨hle k hk, (HPX.out.1 k hk).2.1, HL3.out.pq k hk⟩) (fun k hk e => ?_))⟩
                have e2 : gg = k := by simpa [Value.ownBlock] using e
                rcases ha with h | h
                · rw [e2] at h
                  exact HL3.out.pq k hk h
                · have := hle k hk
                  omega
              have hTB : T < B0 := HL3.out.lk.lt
              clear HJ HJ2 t0 t1 w0 w1 t2 t3 y0 y1 x0 x1
              clear hX2
              go_region_law (first
                | (refine step_append_lies _ (by rfl) _ _ 25 (by rfl) B0 82 ii _ 2 16 Try.underlying25 hii hz0 hz1 hz2 rfl (by omega) (.slice qa rn qc) rn _ (by rfl) (hrow8.alloc _) ⟨X3.heap.size, 0, none⟩ 1 1 [.int .u64 (kk : Int), .int .u64 (vv : Int)] (by rfl) (by rfl) (World.news_of_block (cs := #[.int .u64 (kk : Int), .int .u64 (vv : Int)]) (t := 82) (fr := (0, 0)) (heap_alloc_new X3 _)) (by simp [Value.oneCell']) (by omega) (by unfold maxLen; omega) (by omega) (by simp; omega) (X3.heap.size + 1) (by simp) ?_; intro gg cap' w1 hown1 hgrow hat hlt1; obtain ⟨⟨e0', ef⟩, hmm⟩ := hgr8 gg cap' w1 hgrow hown1 hat))
              all_goals
                clear hgr8 hrow8 cc8
                go_wp2_with fail
                go_roundw
                case rel => exact ⟨j2 + 1, _, _, rfl, by have := HLT.out; omega, by go_num, HU2, by rw [HTS.out]; exact hmm⟩
                case measure => have := HLT.out; simp only [RowKit.intOf]; omega
            · have d4 : ¬ (j2 : Int) < (np : Int) := by omega
              have htk : ps.take j2 = ps := List.take_of_length_le (by rw [HNP.out]; omega)
              have HE : Hid (LkR w T B0 X o (.returned (.tuple #[])) Z) := Lib.hid (by
                rw [HO.out.1 fun u hu => HU.out u (by have := HNP.out; omega)]
                have h1 := HJ.out.lk
                rw [htk] at h1
                refine ⟨rfl, ⟨_, _, _, h1, ?_, HJ.out.pq⟩, HJ.out.kept, HJ.out.pk⟩
                have h2 := HH.out.2.2.2.1
                have h3 := HL15.out
                rw [List.length_append, List.length_append, List.length_singleton]
                omega)
              clear HJ htk
              go_wp2_with fail
              go_end0
              exact HE.out
        | true =>
          have HHI := Lib.hid (show hi + 1 = hig by
            rcases HEN.out.2.2 with h | h
            · exact h.2.2
            · cases h.1)
          have HF0 : Hid (LkF w T B0 y ab ao np c2' 0 ps X (.slice av (m + 1) cv) qv (ms ++ [(p : Int)]) (qs ++ ps.take 0) V) := Lib.hid ⟨by simpa using HA.out.1.old HVV.out.2.2, HVV.out.1, HVV.out.2.1, HLO.out, lky_trans HA.out.2.1 (lky_old HVV.out.2.2), fun k hk => (HVV.out.2.2.block k (Nat.lt_of_lt_of_le (HPX.out.1 k hk).1 HA.out.2.1.size)).trans (HA.out.2.2.2.2 k hk), HPX.out.2⟩
          clear y0 y1
          go_loopw [16, 17] (fun i _ wr => ∃ (j : Nat) (Z : World) (qw : Value), Z = wr ∧ j ≤ np ∧ i = .int .i64 (j : Int) ∧ Hid (∀ u, u < j → keyAt ps u ≤ hi) ∧ Hid (LkF w T B0 y ab ao np c2' 0 ps X (.slice av (m + 1) cv) qw (ms ++ [(p : Int)]) (qs ++ ps.take j) Z)) (fun i _ _ => np - (RowKit.intOf i).toNat)
          case atStart => exact ⟨0, _, _, rfl, Nat.zero_le _, rfl, Lib.hid fun u hu => absurd hu (by omega), HF0⟩
          case round =>
            obtain ⟨j2, Z, qw, rfl, hj2, rfl, HU, HJ⟩ := hrel
            clear HF0 HVV
            have y0 := HJ.out.leaf.c0
            have y1 := HJ.out.leaf.c1
            by_cases hlt2 : j2 < np
            · have d3 : (0 : Int) ≤ (j2 : Int) := by omega
              have d4 : (j2 : Int) < (np : Int) := by omega
              obtain ⟨x0, x1⟩ := HK0.out ab ao rfl Z HJ.out.isps j2 hlt2
              obtain ⟨kk, hkk⟩ : ∃ kk, keyAt ps j2 = kk := ⟨_, rfl⟩
              obtain ⟨vv, hvv⟩ : ∃ vv, valAt ps j2 = vv := ⟨_, rfl⟩
              rw [hkk] at x0
              rw [hvv] at x1
              have HKV := Lib.hid (And.intro hkk hvv)
              obtain ⟨xb, hxb⟩ : ∃ xb, Z.heap.size = xb := ⟨_, rfl⟩
              obtain ⟨X2, hX2⟩ : ∃ X2, Z.alloc (.cells #[.int .u64 (kk : Int), .int .u64 (vv : Int)] 82) = X2 := ⟨_, rfl⟩
              have HJ2 : Hid (LkF w T B0 y ab ao np c2' 0 ps X (.slice av (m + 1) cv) qw (ms ++ [(p : Int)]) (qs ++ ps.take j2) X2) := Lib.hid (by rw [← hX2]; exact HJ.out.old (fun k hk => (HPX.out.1 k hk).1) ((KeptIn.refl _ Z).alloc (fun _ h => h) _))
              have hbx : X2.heap[xb]? = some (.cells #[.int .u64 (kk : Int), .int .u64 (vv : Int)] 82 (0, 0)) := by rw [← hX2, ← hxb]; exact heap_alloc_new Z _
              have w0 : X2.cell? ⟨xb, 0, none⟩ = some (.int .u64 (kk : Int)) := (cell_of_row _ _ 0 _ _ _ hbx).trans rfl
              have w1 : X2.cell? ⟨xb, 1, none⟩ = some (.int .u64 (vv : Int)) := (cell_of_row _ _ 1 _ _ _ hbx).trans rfl
              have t0 := HJ2.out.leaf.c0
              have t1 := HJ2.out.leaf.c1
              have t2 := HJ2.out.lk.c1
              have t3 := HJ2.out.lk.c0
              have HLT := Lib.hid hlt2
              have HTS : Hid (qs ++ ps.take (j2 + 1) = (qs ++ ps.take j2) ++ [(kk, vv)]) := Lib.hid (by rw [take_snocQ ps j2 (by rw [HNP.out]; exact hlt2), hkk, hvv, List.append_assoc])
              have hfitk := HFT.out j2 hlt2
              rw [hkk] at hfitk
              clear hkk hvv hbx
              have HBX : Hid (hi + 1 = hig) := HHI
              by_cases hbd : (hig : Int) ≤ (kk : Int)
              · have HEB : Hid (LkR w T B0 X o (.returned (.tuple #[])) (X2.setCell ⟨T, 2, none⟩ (.bool true))) := Lib.hid (by
                  rw [HO.out.2 j2 (by rw [HNP.out]; exact HLT.out) (by rw [HKV.out.1]; have := HHI.out; omega)]
                  exact bad_set HJ2.out.lk.box HJ2.out.lk.lt HJ2.out.lk.le HJ2.out.kept HJ2.out.pk HPX.out.1)
                obtain ⟨v2, v3⟩ := bad_cell HJ2.out.lk.box
                clear HJ HJ2 t2 t3
                go_wp2_with fail
                go_end0
                exact HEB.out
              have HU2 : Hid (∀ u, u < j2 + 1 → keyAt ps u ≤ hi) := Lib.hid fun u hu => by
                rcases Nat.lt_or_ge u j2 with h | h
                · exact HU.out u h
                · obtain rfl : u = j2 := by omega
                  rw [HKV.out.1]
                  have := HHI.out
                  omega
              go_wp2_with fail
              obtain ⟨ii, hii, hz0, hz1, hz2⟩ := info_parts infoPair
              obtain ⟨rn, hrn⟩ : ∃ rn, (qs ++ ps.take j2).length = rn := ⟨_, rfl⟩
              have hrn2 : rn ≤ 10000 := by
                have h1 := HH.out.2.2.2.1
                have h4 := HI.out.2.2
                have h5 := HH.out.2.2.1
                have h3 := HL15.out
                have h2 : (ps.take j2).length ≤ ps.length := by rw [List.length_take]; omega
                rw [← hrn, List.length_append]
                omega
              obtain ⟨qa, qc, rfl, _⟩ := row_slice HJ2.out.lk.qrow
              rw [hrn] at HJ2 t2
              have HL3 : Hid (LkF w T B0 y ab ao np c2' 0 ps X (.slice av (m + 1) cv) (.slice qa rn qc) (ms ++ [(p : Int)]) (qs ++ ps.take j2) X2.drew) := Lib.hid (HJ2.out.old (fun k hk => (HPX.out.1 k hk).1) (KeptIn.refl _ X2).drew)
              have w0' : X2.drew.cell? ⟨xb, 0, none⟩ = some (.int .u64 (kk : Int)) := w0
              have w1' : X2.drew.cell? ⟨xb, 1, none⟩ = some (.int .u64 (vv : Int)) := w1
              have t2' : X2.drew.cell? ⟨T, 1, none⟩ = some (.slice qa rn qc) := t2
              obtain ⟨X3, hX3⟩ : ∃ X3, X2.drew = X3 := ⟨_, rfl⟩
              rw [hX3] at HL3 w0' w1' t2'
              have hrow8 : X3.ownsRow B0 82 2 (.slice qa rn qc) rn (cellsP (qs ++ ps.take j2)) := by have := HL3.out.lk.qrow; rw [hrn] at this; exact this
              have hsz8 : B0 ≤ X3.heap.size := HL3.out.lk.le
              have cc8 : (X3.alloc (.cells #[.int .u64 (kk : Int), .int .u64 (vv : Int)] 82)).cell? ⟨T, 1, none⟩ = some (.slice qa rn qc) := (World.cell?_of_block (a := ⟨T, 1, none⟩) (Lib.alloc_old X3 _ _ (Nat.lt_of_lt_of_le HL3.out.lk.lt hsz8))).trans t2'
              have hgr8 : ∀ (gg cap' : Nat) (w1 : World), (X3.alloc (.cells #[.int .u64 (kk : Int), .int .u64 (vv : Int)] 82)).grownBy w1 (Value.slice qa rn qc).ownBlock → w1.ownsRow B0 82 2 (.slice (some ⟨gg, 0, none⟩) (rn + 1) cap') (rn + 1) (cellsP (qs ++ ps.take j2) ++ [.int .u64 (kk : Int), .int .u64 (vv : Int)]) → ((Value.slice qa rn qc).ownBlock = some gg ∨ gg = X3.heap.size + 1) → (w1.cell? ⟨T, 1, none⟩ = some (.slice qa rn qc) ∧ w1.frozen? ⟨T, 1, none⟩ = false) ∧ Hid (LkF w T B0 y ab ao np c2' 0 ps X (.slice av (m + 1) cv) (.slice (some ⟨gg, 0, none⟩) (rn + 1) cap') (ms ++ [(p : Int)]) ((qs ++ ps.take j2) ++ [(kk, vv)]) (w1.setCell ⟨T, 1, none⟩ (.slice (some ⟨gg, 0, none⟩) (rn + 1) cap'))) := fun gg cap' w1 hg ho ha => by
                obtain ⟨f1, f2, f3⟩ := lk_pair HL3.out.lk hrn hg ho
                have hk9 := lk_kept (T := T) (i := 1) (u := .slice (some ⟨gg, 0, none⟩) (rn + 1) cap') hg
                have hle : ∀ k, X k → k < X3.heap.size := fun k hk => Nat.lt_of_lt_of_le (HPX.out.1 k hk).1 HL3.out.kept.size
                refine ⟨f1, Lib.hid (HL3.out.go f3 f2 (fun k hk => hk9.block k ⟨hle k hk, (HPX.out.1 k hk).2.1, HL3.out.pq k hk⟩) (fun k hk e => ?_))⟩
                have e2 : gg = k := by simpa [Value.ownBlock] using e
                rcases ha with h | h
                · rw [e2] at h
                  exact HL3.out.pq k hk h
                · have := hle k hk
                  omega
              have hTB : T < B0 := HL3.out.lk.lt
              clear HJ HJ2 t0 t1 w0 w1 t2 t3 y0 y1 x0 x1
              clear hX2
              go_region_law (first
                | (refine step_append_lies _ (by rfl) _ _ 25 (by rfl) B0 82 ii _ 2 16 Try.underlying25 hii hz0 hz1 hz2 rfl (by omega) (.slice qa rn qc) rn _ (by rfl) (hrow8.alloc _) ⟨X3.heap.size, 0, none⟩ 1 1 [.int .u64 (kk : Int), .int .u64 (vv : Int)] (by rfl) (by rfl) (World.news_of_block (cs := #[.int .u64 (kk : Int), .int .u64 (vv : Int)]) (t := 82) (fr := (0, 0)) (heap_alloc_new X3 _)) (by simp [Value.oneCell']) (by omega) (by unfold maxLen; omega) (by omega) (by simp; omega) (X3.heap.size + 1) (by simp) ?_; intro gg cap' w1 hown1 hgrow hat hlt1; obtain ⟨⟨e0', ef⟩, hmm⟩ := hgr8 gg cap' w1 hgrow hown1 hat))
              all_goals
                clear hgr8 hrow8 cc8
                go_wp2_with fail
                go_roundw
                case rel => exact ⟨j2 + 1, _, _, rfl, by have := HLT.out; omega, by go_num, HU2, by rw [HTS.out]; exact hmm⟩
                case measure => have := HLT.out; simp only [RowKit.intOf]; omega
            · have d4 : ¬ (j2 : Int) < (np : Int) := by omega
              have htk : ps.take j2 = ps := List.take_of_length_le (by rw [HNP.out]; omega)
              have HE : Hid (LkR w T B0 X o (.returned (.tuple #[])) Z) := Lib.hid (by
                rw [HO.out.1 fun u hu => HU.out u (by have := HNP.out; omega)]
                have h1 := HJ.out.lk
                rw [htk] at h1
                refine ⟨rfl, ⟨_, _, _, h1, ?_, HJ.out.pq⟩, HJ.out.kept, HJ.out.pk⟩
                have h2 := HH.out.2.2.2.1
                have h3 := HL15.out
                rw [List.length_append, List.length_append, List.length_singleton]
                omega)
              clear HJ htk
              go_wp2_with fail
              go_end0
              exact HE.out

end Go.Proofs.Ytdbohcdjamhdjaa
