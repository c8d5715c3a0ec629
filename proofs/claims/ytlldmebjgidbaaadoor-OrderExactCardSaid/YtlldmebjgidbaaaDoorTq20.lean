/- Order: the document's Text. -/
import Derived.Test.YtlldmebjgidbaaaDoorCt20
import Derived.Test.YtlldmebjgidbaaaDoorSp20
import Derived.Test.YtlldmebjgidbaaaDoorRd20
import Derived.Deep.QuietTactic
set_option linter.unusedVariables false
set_option linter.unusedSimpArgs false
namespace Go.Proofs.YtlldmebjgidbaaaDoor
open Go.RowKit

theorem rWords' (w : World) : Calls Tryd.prog 10 #[] w fun e w' => ∃ g, e = .returned (.slice (some ⟨g, 0, none⟩) 16 16) ∧ (∀ j t, wordsC[j]? = some t → w'.cell? ⟨g, j, none⟩ = some (.string ⟨t.toArray⟩)) ∧ KeptIn (· < w.heap.size) w w' := by
  refine (rWords w).mono ?_
  rintro e W ⟨rfl, h, hK⟩
  exact ⟨_, rfl, fun j t ht => by have := h j t ht; rwa [Nat.zero_add] at this, hK⟩

theorem jt_next {wd : List UInt8} {r : List (List UInt8)} {j : Nat} {y : List UInt8} (h : r[j]? = some y) : wd ++ Lib.joinTail [32] (r.take (j + 1)) = (wd ++ Lib.joinTail [32] (r.take j)) ++ 32 :: y := by
  rw [Lib.joinTail_take_succ _ _ _ _ h]
  simp
theorem app2 (s t : List UInt8) : (⟨s.toArray⟩ : ByteArray) ++ ⟨#[32]⟩ ++ ⟨t.toArray⟩ = ⟨(s ++ 32 :: t).toArray⟩ := by
  apply ByteArray.ext
  simp
theorem jt_app (a b : List (List UInt8)) : Lib.joinTail [32] (a ++ b) = Lib.joinTail [32] a ++ Lib.joinTail [32] b := by simp [Lib.joinTail]

set_option maxRecDepth 1000000 in
set_option maxHeartbeats 4000000 in
theorem rText (o : Od) (h : o.ok) (hts : ∀ t ∈ o.ts, t.length ≤ 100000) (a1 a2 : Option Addr) (c1 c2 : Nat) (w : World) (hN : RdN a1 o.ns w) (hT : RdT a2 o.ts w) :
    Calls Tryd.prog 8 #[oS ((o.k + 1 : Nat) : Int) (.slice a1 o.ns.length c1) (.slice a2 o.ts.length c2)] w fun e w' => e = .returned (.tuple #[.string ⟨(txtR o).toArray⟩, .bool (canT o.ts)]) ∧ KeptIn (· < w.heap.size) w w' := by
  unfold oS
  have hI := Lib.hid h.i
  have hwq : wordsC[o.k + 1]? = some (wordL o.k) := wordsC_at _ h.k
  have hq1 : 1 ≤ o.k + 1 ∧ o.k + 1 ≤ 15 := ⟨by omega, by have := h.k; omega⟩
  have h3 : o.ns.length ≤ 3 ∧ o.ts.length ≤ 3 := by
    rw [h.n, h.t]
    have := cn_ct o.k h.k
    omega
  have hwl := wordL_len o.k
  obtain ⟨tr, htr⟩ : ∃ tr, txtR o = tr := ⟨_, rfl⟩
  have htx : Hid (tr = if canT o.ts = true then wordL o.k ++ Lib.joinTail [32] (o.ns.map Lib.itoa ++ o.ts.map runesOf) else []) := Lib.hid (by rw [← htr]; unfold txtR textL wdsO; rw [Lib.join_cons])
  obtain ⟨cb, hcb⟩ : ∃ b, canT o.ts = b := ⟨_, rfl⟩
  rw [htr, hcb]
  rw [hcb] at htx
  have hcan : Hid (cb = o.ts.all fun t => decide (t.length ≤ 512)) := Lib.hid hcb.symm
  clear htr hcb h
  generalize wordL o.k = wd at hwq hwl htx
  generalize o.k + 1 = q at hwq hq1 ⊢
  generalize o.ns = ns at hI h3 htx hN ⊢
  generalize o.ts = ts at h3 htx hts hT hcan ⊢
  obtain ⟨nn, hnn⟩ : ∃ n, ns.length = n := ⟨_, rfl⟩
  obtain ⟨nt, hnt⟩ : ∃ n, ts.length = n := ⟨_, rfl⟩
  rw [hnn, hnt] at h3 ⊢
  obtain ⟨W0, hW0⟩ : ∃ W, w.alloc (.cells #[.int .i64 (q : Int), .slice a1 nn c1, .slice a2 nt c2] 32) = W := ⟨_, rfl⟩
  have hs0 : W0.heap.size = w.heap.size + 1 := by rw [← hW0]; simp
  have hKW : KeptIn (· < w.heap.size) w W0 := by rw [← hW0]; exact (KeptIn.refl _ _).alloc (fun _ h => h) _
  have HKW : Hid (∀ V, KeptIn (· < W0.heap.size) W0 V → KeptIn (· < w.heap.size) w V) := Lib.hid fun V h => hKW.trans (h.mono fun k hk => by omega)
  have HW0 : W0.heap[w.heap.size]? = some (.cells #[.int .i64 (q : Int), .slice a1 nn c1, .slice a2 nt c2] 32 (0, 0)) := by rw [← hW0]; exact heap_alloc_new w _
  have HC : Hid (∀ V, KeptIn (· < W0.heap.size) W0 V → V.cell? ⟨w.heap.size, 0, none⟩ = some (.int .i64 (q : Int)) ∧ V.cell? ⟨w.heap.size, 1, none⟩ = some (.slice a1 nn c1) ∧ V.cell? ⟨w.heap.size, 2, none⟩ = some (.slice a2 nt c2)) := Lib.hid fun V h => by
    have h1 := (h.block w.heap.size (by omega)).trans HW0
    refine ⟨?_, ?_, ?_⟩
    · unfold World.cell?; rw [h1]; rfl
    · unfold World.cell?; rw [h1]; rfl
    · unfold World.cell?; rw [h1]; rfl
  have HN : Hid (∀ V, KeptIn (· < W0.heap.size) W0 V → RdN a1 ns V) := Lib.hid fun V h => hN.old (HKW.out V h)
  have HT : Hid (∀ V, KeptIn (· < W0.heap.size) W0 V → RdT a2 ts V) := Lib.hid fun V h => hT.old (HKW.out V h)
  have hwh := Lib.hid hW0
  have g1 : decide ((q : Int) < 1) = false := decide_eq_false (by omega)
  have g2 : decide ((15 : Int) < (q : Int)) = false := decide_eq_false (by omega)
  have g3 : decide (q < 1) = false := decide_eq_false (by omega)
  have g4 : decide (15 < q) = false := decide_eq_false (by omega)
  have g5 : (q : Int) < 16 := by omega
  have g6 : (0 : Int) ≤ (q : Int) := by omega
  have g7 : q < 16 := by omega
  replace hnn := Lib.hid hnn
  replace hnt := Lib.hid hnt
  replace hwq := Lib.hid hwq
  replace hts := Lib.hid hts
  replace h3 := Lib.hid h3
  replace hwl := Lib.hid hwl
  clear hs0 hKW HW0 hN hT hq1 hW0
  go_enter Tryd.func8, Tryd.ntmps8
  go_upto_block 0 with fail
  rw [hwh.out]
  clear hwh g1 g2 g3 g4
  have hK0 : Hid (KeptIn (· < W0.heap.size) W0 W0) := Lib.hid (.refl _ _)
  obtain ⟨cq, -, -⟩ := HC.out W0 hK0.out
  obtain ⟨cq', -, -⟩ := HC.out W0.drew hK0.out.drew
  go_region_law (first | (go_simp; refine (rWords' _).mono ?_; rintro e V1 ⟨g, rfl, hR, hK1'⟩; have hK1 : KeptIn (· < W0.heap.size) W0 V1 := (by first | exact hK1' | exact undrewK hK1'); have hcw := hR _ _ hwq.out; obtain ⟨cv, -, -⟩ := HC.out V1 hK1; replace hR := Lib.hid hR))
  all_goals
    have H1 : Hid (KeptIn (· < W0.heap.size) W0 V1) := Lib.hid hK1
    clear hK1 hK1' hcw cv hR cq cq' g5 g6 g7
    go_wp2_with fail
    go_loopw [4, 5] (fun v i wr => ∃ (j : Nat) (tx : List UInt8) (V : World), V = wr ∧ v = .string ⟨tx.toArray⟩ ∧ i = .int .i64 (j : Int) ∧ Hid (j ≤ nn ∧ KeptIn (· < W0.heap.size) W0 V ∧ tx = wd ++ Lib.joinTail [32] ((ns.map Lib.itoa).take j) ∧ tx.length ≤ 100 + 100 * j)) (fun _ i _ => nn - (RowKit.intOf i).toNat)
    case atStart => exact ⟨0, wd, _, rfl, rfl, rfl, Nat.zero_le _, by first | exact H1.out | exact H1.out.drew | exact H1.out.drewN _, by simp [Lib.joinTail], by have := hwl.out; omega⟩
    case round =>
      obtain ⟨j, tx, V, rfl, rfl, rfl, H⟩ := hrel
      obtain ⟨hj, hK, hD, hol⟩ := H.out
      clear H
      obtain ⟨-, cA1, cA2⟩ := HC.out V hK
      have hn3 : nn ≤ 3 := h3.out.1
      have hw1 := wrap_succ j (by omega)
      by_cases hp : j < nn
      · obtain ⟨n, hn⟩ : ∃ n, ns[j]? = some n := ⟨_, List.getElem?_eq_getElem (by rw [hnn.out]; exact hp)⟩
        obtain ⟨k0, k1⟩ := hI.out n (List.mem_of_getElem? hn)
        obtain ⟨g2, hg2, hc2⟩ := HN.out V hK j n hn
        rw [hg2] at cA1
        have C := Lib.hid (rDigits n k0 k1 V)
        have hil := itoa_len n k0 k1
        have hnx : Hid (wd ++ Lib.joinTail [32] ((ns.map Lib.itoa).take (j + 1)) = tx ++ 32 :: Lib.itoa n) := Lib.hid (by rw [jt_next (by rw [List.getElem?_map, hn]; rfl), hD])
        generalize Lib.itoa n = y at C hil hnx
        have d1 : decide ((j : Int) < (nn : Int)) = true := decide_eq_true (by omega)
        have d2 : (j : Int) < (nn : Int) := by omega
        have d3 : (0 : Int) ≤ (j : Int) := by omega
        have d4 : decide (j < nn) = true := decide_eq_true hp
        have hls : tx.length ≤ 1000000 := by omega
        have hol2 := Lib.hid hol
        have hil2 := Lib.hid hil
        have hp2 := Lib.hid hp
        replace hK := Lib.hid hK
        clear hD hn k0 k1 hg2 hj hol hp hn3
        go_wp2_with fail
        refine C.out.mono ?_
        rintro e V3 ⟨rfl, hK3⟩
        have H3 := Lib.hid (hK.out.trans (hK3.mono fun k hk => Nat.lt_of_lt_of_le hk hK.out.size))
        clear hK3 hK C cA1 cA2 hc2
        go_wp2_with fail
        go_roundw
        case rel =>
          refine ⟨j + 1, tx ++ 32 :: y, _, rfl, ?_, by first | rfl | exact congrArg (Value.int .i64) hw1, hp2.out, by first | exact H3.out | exact H3.out.drew, hnx.out.symm, by have := hol2.out; have := hil2.out; simp; omega⟩
          exact congrArg Value.string (app2 tx y)
        case measure => first | exact ms_step hp2.out rfl | exact ms_step hp2.out hw1
      · obtain rfl : j = nn := by omega
        have d1 : decide ((j : Int) < (j : Int)) = false := decide_eq_false (by omega)
        have hD1 : Hid (tx = wd ++ Lib.joinTail [32] (ns.map Lib.itoa)) := Lib.hid (by rw [hD, List.take_of_length_le (by rw [List.length_map, hnn.out]; exact Nat.le_refl _)])
        have hol1 : Hid (tx.length ≤ 400) := Lib.hid (by omega)
        replace hK := Lib.hid hK
        clear hD hol hj hp hn3 hw1
        go_wp2_with fail
        clear cA1 cA2 d1
        go_loopw [4, 6] (fun v i wr => ∃ (j : Nat) (tz : List UInt8) (V : World), V = wr ∧ v = .string ⟨tz.toArray⟩ ∧ i = .int .i64 (j : Int) ∧ Hid (j ≤ nt ∧ KeptIn (· < W0.heap.size) W0 V ∧ tz = wd ++ Lib.joinTail [32] (ns.map Lib.itoa ++ (ts.map runesOf).take j) ∧ tz.length ≤ 400 + 400000 * j ∧ ∀ t ∈ ts.take j, t.length ≤ 512)) (fun _ i _ => nt - (RowKit.intOf i).toNat)
        case atStart => exact ⟨0, tx, _, rfl, rfl, rfl, Nat.zero_le _, hK.out, by rw [hD1.out]; simp, hol1.out, by simp⟩
        case round =>
          obtain ⟨m, tz, V, rfl, rfl, rfl, H⟩ := hrel
          obtain ⟨hj, hK, hD, hol, hall⟩ := H.out
          clear H
          obtain ⟨-, cA1, cA2⟩ := HC.out V hK
          have hn3 : nt ≤ 3 := h3.out.2
          have hw1 := wrap_succ m (by omega)
          by_cases hp : m < nt
          · obtain ⟨t, ht⟩ : ∃ t, ts[m]? = some t := ⟨_, List.getElem?_eq_getElem (by rw [hnt.out]; exact hp)⟩
            have htl := hts.out t (List.mem_of_getElem? ht)
            obtain ⟨g2, hg2, hc2⟩ := HT.out V hK m t ht
            rw [hg2] at cA2
            have d1 : decide ((m : Int) < (nt : Int)) = true := decide_eq_true (by omega)
            have d2 : (m : Int) < (nt : Int) := by omega
            have d3 : (0 : Int) ≤ (m : Int) := by omega
            have d4 : decide (m < nt) = true := decide_eq_true hp
            have hls : tz.length ≤ 2000000 := by omega
            by_cases h5 : t.length ≤ 512
            · have d5 : decide ((512 : Int) < (t.length : Int)) = false := decide_eq_false (by omega)
              have d6 : decide (512 < t.length) = false := decide_eq_false (by omega)
              have C := Lib.hid (rRunes t htl V)
              have hrl : (runesOf t).length ≤ 300001 := by have := runesOf_len t; omega
              have hnx : Hid (wd ++ Lib.joinTail [32] (ns.map Lib.itoa ++ (ts.map runesOf).take (m + 1)) = tz ++ 32 :: runesOf t) := Lib.hid (by
                rw [jt_app, Lib.joinTail_take_succ _ _ _ (runesOf t) (by rw [List.getElem?_map, ht]; rfl), hD, jt_app]
                simp)
              have hall2 : Hid (∀ x ∈ ts.take (m + 1), x.length ≤ 512) := Lib.hid fun x hx => by
                rw [List.take_add_one, ht, List.mem_append] at hx
                rcases hx with hx | hx
                · exact hall x hx
                · simp at hx
                  rw [hx]
                  exact h5
              generalize runesOf t = y at C hrl hnx
              have hol2 := Lib.hid hol
              have hrl2 := Lib.hid hrl
              have hp2 := Lib.hid hp
              replace hK := Lib.hid hK
              clear hD ht hg2 hj hol hp hn3 hall h5
              go_wp2_with fail
              refine C.out.mono ?_
              rintro e V3 ⟨rfl, hK3⟩
              have H3 := Lib.hid (hK.out.trans (hK3.mono fun k hk => Nat.lt_of_lt_of_le hk hK.out.size))
              clear hK3 hK C cA1 cA2 hc2
              go_wp2_with fail
              go_roundw
              case rel =>
                refine ⟨m + 1, tz ++ 32 :: y, _, rfl, ?_, by first | rfl | exact congrArg (Value.int .i64) hw1, hp2.out, by first | exact H3.out | exact H3.out.drew, hnx.out.symm, by have := hol2.out; have := hrl2.out; simp; omega, hall2.out⟩
                exact congrArg Value.string (app2 tz y)
              case measure => first | exact ms_step hp2.out rfl | exact ms_step hp2.out hw1
            · have d5 : decide ((512 : Int) < (t.length : Int)) = true := decide_eq_true (by omega)
              have d6 : decide (512 < t.length) = true := decide_eq_true (by omega)
              have hcf : Hid (cb = false) := Lib.hid (by
                rw [hcan.out]
                refine Bool.eq_false_iff.2 fun h => h5 ?_
                exact of_decide_eq_true (List.all_eq_true.1 h t (List.mem_of_getElem? ht)))
              have htf : Hid (tr = []) := Lib.hid (by rw [htx.out, if_neg (by rw [hcf.out]; simp)])
              replace hK := Lib.hid hK
              clear hD ht hg2 hj hol hp hn3 hall h5
              go_wp2_with fail
              go_ret2
              rw [hcf.out, htf.out]
              exact ⟨rfl, HKW.out _ hK.out⟩
          · obtain rfl : m = nt := by omega
            have d1 : decide ((m : Int) < (m : Int)) = false := decide_eq_false (by omega)
            have hcf : Hid (cb = true) := Lib.hid (by
              rw [hcan.out]
              refine List.all_eq_true.2 fun x hx => decide_eq_true (hall x ?_)
              rw [List.take_of_length_le (by rw [hnt.out]; exact Nat.le_refl _)]
              exact hx)
            have htf : Hid (tr = tz) := Lib.hid (by rw [htx.out, if_pos hcf.out, hD, List.take_of_length_le (by rw [List.length_map, hnt.out]; exact Nat.le_refl _)])
            replace hK := Lib.hid hK
            clear hD hol hj hp hn3 hall hw1
            go_wp2_with fail
            go_ret2
            rw [hcf.out, htf.out]
            exact ⟨rfl, HKW.out _ hK.out⟩
end Go.Proofs.YtlldmebjgidbaaaDoor
