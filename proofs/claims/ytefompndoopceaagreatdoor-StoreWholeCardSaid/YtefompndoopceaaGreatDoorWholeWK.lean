import Derived.Test.YtefompndoopceaaGreatDoorWj7K
import Derived.Test.YtefompndoopceaaGreatDoorSsK
import Derived.Test.YtefompndoopceaaGreatDoorNums
import Derived.Deep.Cut
import Derived.Deep.CutRange
/- tiercelaw07.StoreWhole: it answers true whatever the input; what was there stands. -/
set_option linter.unusedVariables false
namespace Go.Proofs.YtefompndoopceaaGreatDoor
open Go.RowKit

def hB7 (c : Int) : Hd := ⟨1, 0, 9, 3, c⟩

theorem ownsRow_one (w : World) (g B : Nat) (T : TypeId) (v : Value) (hB : B ≤ g) (hg : w.heap[g]? = some (.cells #[v] T (0, 0))) : w.ownsRow B T 1 (.slice (some ⟨g, 0, none⟩) 1 1) 1 [v] :=
  ⟨rfl, .inr ⟨g, 1, #[v], rfl, hB, hg, Nat.le_refl _, by decide, rfl, rfl⟩⟩

theorem wh_nums (i k : Nat) (hi : i ≤ 8) (hk : k ≤ 5) : ∃ hu y : Nat, 100 * i + k = y ∧ y < 1000 ∧ 100 * (i : Int) = (hu : Int) ∧ wrap64 (100 * (i : Int)) = (hu : Int) ∧ wrap64 (hu : Int) = (hu : Int) ∧ (hu : Int) + (k : Int) = (y : Int) ∧ wrap64 ((hu : Int) + (k : Int)) = (y : Int) ∧ wrap64 (y : Int) = (y : Int) := by
  refine ⟨100 * i, 100 * i + k, rfl, by omega, by omega, ?_, ?_, by omega, ?_, ?_⟩ <;> unfold wrap64 <;> omega
theorem wh_at (t g1 : Nat) (h : t + 1 = g1) (ht : t ≤ 100) : IntKind.i64.wrap (g1 : Int) = (g1 : Int) ∧ wrap64 (g1 : Int) = (g1 : Int) ∧ (g1 : Int) - 1 = (t : Int) ∧ wrap64 ((g1 : Int) - 1) = (t : Int) ∧ wrap64 (t : Int) = (t : Int) := by
  refine ⟨?_, ?_, by omega, ?_, ?_⟩
  · rw [IntKind.wrap_i64]; omega
  all_goals (unfold wrap64; omega)
theorem wh_read (t k nl : Nat) (h0 : 0 < t) (h1 : t ≤ 100) (hk : k < nl) (hn : nl ≤ 5) : ∃ u v y : Nat, y = 100 * (t - 1) + k ∧ y < 18446744073709551616 ∧ IntKind.i64.wrap ((t : Int) - 1) = (u : Int) ∧ wrap64 ((t : Int) - 1) = (u : Int) ∧
    IntKind.i64.wrap (100 * (u : Int)) = (v : Int) ∧ wrap64 (100 * (u : Int)) = (v : Int) ∧ IntKind.i64.wrap ((v : Int) + (k : Int)) = (y : Int) ∧ wrap64 ((v : Int) + (k : Int)) = (y : Int) := by
  refine ⟨t - 1, 100 * (t - 1), 100 * (t - 1) + k, rfl, by omega, ?_, ?_, ?_, ?_, ?_, ?_⟩ <;> first | (rw [IntKind.wrap_i64]; omega) | (unfold wrap64; omega)
theorem wh_wrap {k nl : Nat} (h : k < nl) (hn : nl ≤ 5) : wrap64 ((k : Int) + 1) = (k : Int) + 1 := by unfold wrap64; omega
theorem wh_cast (k : Nat) : Value.int .i64 ((k : Int) + 1) = Value.int .i64 ((k + 1 : Nat) : Int) := by simp
theorem wh_meas {k nl : Nat} (h : k < nl) : nl - ((k : Int) + 1).toNat < nl - ((k : Int)).toNat := by omega
theorem wh_bound {t i : Nat} (h : t = i ∨ t = i + 1) (hi : i ≤ 8) : t ≤ 100 := by omega
theorem wh_ne (t i : Nat) (h : t = i + 1) : (i : Int) + 1 = (t : Int) ∧ ¬ (t : Int) = (i : Int) := by omega
theorem wh_zero (t : Nat) : (t = 0 → (t : Int) = 0) ∧ (¬ t = 0 → ¬ (t : Int) = 0) := by omega
theorem wh_size (y : Int) : ∃ n0 n : Nat, 1 ≤ n ∧ n ≤ 5 ∧ wrap64 ((IntKind.u64.wrap y).tmod 5) = (n0 : Int) ∧ wrap64 (1 + wrap64 ((IntKind.u64.wrap y).tmod 5)) = (n : Int) ∧ (1 : Int) + (n0 : Int) = (n : Int) ∧ wrap64 (n : Int) = (n : Int) := by
  obtain ⟨n0, hn0, hnw⟩ := modWalk y 5 (by decide) (by decide)
  rw [show ((5 : Nat) : Int) = 5 from rfl] at hnw
  refine ⟨n0, n0 + 1, by omega, by omega, hnw, ?_, by omega, ?_⟩
  · rw [hnw]; unfold wrap64; omega
  · unfold wrap64; omega


set_option maxHeartbeats 8000000 in
set_option maxRecDepth 100000 in
theorem storeWholeW (a : Option Addr) (len cap : Nat) (zs : List Int) (x : Int) (s2 : ByteArray) (w : World) (hz : IsRow .i64 w a len cap zs) (wx : (Lit.int .i64 x).wf = true) (w2 : s2.size ≤ maxLen) (hT : Tab w) :
    Calls Tryz.prog 5 #[.slice a len cap, .int .i64 x, .string s2] w fun e w' => e = .returned (.bool true) ∧ KeptIn (· < w.heap.size) w w' := by
  have CA := Lib.hid (awake7 w hT)
  have HT := Lib.hid hT
  have hll := hz.len_le
  unfold maxLen at hll
  have hm : (len : Int) ≤ 9223372036854775807 := by omega
  have HZ := Lib.hid hz
  have HCS := Lib.hid l7slots
  obtain ⟨l, rfl⟩ : ∃ l : List UInt8, s2 = ⟨l.toArray⟩ := ⟨s2.data.toList, (Lib.mk_data s2).symm⟩
  have hl : l.length ≤ maxLen := by rwa [show (⟨l.toArray⟩ : ByteArray).size = l.length from List.size_toArray ..] at w2
  have HL := Lib.hid hl
  have b2 : (l.length : Int) ≤ 9223372036854775807 := by unfold maxLen at hl; omega
  clear hz hT hll w2 hl
  by_cases h40 : (len : Int) > 8
  · go_enter Tryz.func5, Tryz.ntmps5
    go_wp2_with (go_at_call 7; refine CA.out.mono ?_; rintro e V1 ⟨rfl, kv⟩)
    go_ret
    exact ⟨rfl, kv⟩
  by_cases h41 : (l.length : Int) > 20
  · have h40' : (len : Int) ≤ 8 := by omega
    clear h40
    go_enter Tryz.func5, Tryz.ntmps5
    go_wp2_with (go_at_call 7; refine CA.out.mono ?_; rintro e V1 ⟨rfl, kv⟩)
    go_ret
    exact ⟨rfl, kv⟩
  have h40' : (len : Int) ≤ 8 := by omega
  have h40n : len ≤ 8 := by omega
  have h41' : (l.length : Int) ≤ 20 := by omega
  clear h40 h41
  obtain ⟨fu, hfu, hfw⟩ := modWalk x 400 (by decide) (by decide)
  rw [show ((400 : Nat) : Int) = 400 from rfl] at hfw
  clear wx
  go_enter Tryz.func5, Tryz.ntmps5
  go_wp2_with (go_at_call 7; refine CA.out.mono ?_; rintro e V1 ⟨rfl, kv⟩)
  have HT1 := Lib.hid (HT.out.kept kv HT.out.lt)
  have HKV := Lib.hid kv
  clear CA kv
  go_wp2_with (first
    | (go_at_call 8; refine (begNew V1).mono ?_; rintro e W1 ⟨rfl, hP1, k1⟩; have H1 := Lib.hid (And.intro hP1 k1); clear hP1 k1)
    | (go_at_call 10; refine (begDev V1 W1 V1.heap.size pw0 480 480 H1.out.2 H1.out.1 (by decide)).mono ?_))
  rintro e W2 hR
  unfold DevS at hR
  obtain ⟨d, s, b, rfl, q1, q2, q3, q4, q5, q6, q7⟩ := hR
  have H2 := Lib.hid (And.intro q1 (And.intro q2 (And.intro q3 (And.intro q4 (And.intro q5 q6)))))
  clear q1 q2 q3 q4 q5 q6 q7 H1
  go_wp2_with fail
  refine (HCS.out W2).mono ?_
  rintro e W3 ⟨rfl, k3⟩
  have H3 := Lib.hid (And.intro (H2.out.1.kept k3 H2.out.1.ltd H2.out.1.lts H2.out.1.ltb) (And.intro (H2.out.2.1.kept k3 H2.out.2.1.lt) (H2.out.2.2.1.step k3)))
  clear k3
  go_wp2_with fail
  refine (begFor V1 W3 d V1.heap.size s b 480 30 pw0 9 3 1 H3.out.2.2 HT1.out H3.out.1 H3.out.2.1 pw0_sure H2.out.2.2.2.1 (Nat.le_refl _) H2.out.2.2.2.2.1 H2.out.2.2.2.2.2 (by decide) (by decide) (by decide)).mono ?_
  rintro e W4 hR
  unfold ForS at hR
  obtain ⟨st, pg, p, rfl, hbg⟩ := hR
  unfold Begun at hbg
  obtain ⟨A, hA⟩ : ∃ A : Ad, A = ⟨d, V1.heap.size, s, b, st, pg⟩ := ⟨_, rfl⟩
  rw [← hA] at hbg
  have hd : d = A.d := by rw [hA]
  have hst : st = A.st := by rw [hA]
  have hmm : V1.heap.size = A.m := by rw [hA]
  subst hst
  subst hd
  have H4 := Lib.hid hbg
  have HMM := Lib.hid hmm
  clear hbg H3 H2 hA hmm
  have HLO := Lib.hid H4.out.2.2.1
  have CF := Lib.hid (svFuse H4.out.1 (fu : Int) (by omega))
  rw [HMM.out]
  go_wp2_with (go_at_call 37; refine CF.out.mono ?_; rintro e W5 ⟨rfl, hv5, f5⟩)
  obtain ⟨W6, hW6⟩ : ∃ W6, (W5.alloc (.cells #[] 3)).alloc (.cells #[.slice (some ⟨W5.heap.size, 0, none⟩) 0 0] 40) = W6 := ⟨_, rfl⟩
  have k6 : KeptIn (· < W5.heap.size) W5 W6 := by rw [← hW6]; exact ((KeptIn.refl _ W5).alloc (fun _ h => h) _).alloc (fun _ h => h) _
  have hga : W6.heap[W5.heap.size]? = some (.cells #[] 3 (0, 0)) := by
    rw [← hW6, Lib.alloc_old _ _ _ (by simp), heap_alloc_new]
  have hgb : W6.heap[W5.heap.size + 1]? = some (.cells #[.slice (some ⟨W5.heap.size, 0, none⟩) 0 0] 40 (0, 0)) := by
    rw [← hW6, show W5.heap.size + 1 = (W5.alloc (.cells #[] 3)).heap.size by simp, heap_alloc_new]
  have k15 := HLO.out.fr H4.out.2.2.2 f5
  have HJ0 : Hid (WhI V1 A 0 (.slice (some ⟨W5.heap.size + 1, 0, none⟩) 1 1) W6) := Lib.hid
    ⟨_, _, _, 0, noP 30, fun _ => 0, [], [.slice (some ⟨W5.heap.size, 0, none⟩) 0 0], hv5.old k6, by rw [formS_length, List.length_replicate], noP_wh, by decide, inv_format 480 30 (hB7 1) (by decide) (by decide) _, (fun t ht => absurd ht (by simp)), rfl, (fun _ => rfl), (fun h => by omega), rfl, rfl, rfl, rfl,
      ownsRow_one W6 _ _ _ _ (Nat.le_trans k15.size (Nat.le_succ _)) hgb, ⟨W5.heap.size, 0, rfl, rfl, .inr ⟨W5.heap.size, 0, #[], rfl, k15.size, hga, Nat.le_refl _, Nat.zero_le _, rfl, rfl⟩⟩, k15.step k6⟩
  obtain ⟨v6, hv6⟩ : ∃ v, Value.slice (some ⟨W5.heap.size + 1, 0, none⟩) 1 1 = v := ⟨_, rfl⟩
  rw [hW6, hv6]
  rw [hv6] at HJ0
  clear hfw
  generalize (IntKind.u64.wrap x).tmod 400 = y1
  generalize IntKind.u64.wrap x = y2
  clear k6 hga hgb k15 hv5 f5 hW6 hv6 CF H4 hfu
  obtain ⟨ii, hii, hz0, hz1, hz2⟩ := info_parts (show (Tryz.prog.info? 3).map (fun i => (i.zero, i.size, i.bytes)) = some (some (.int .i64 0), 1, 8) by kernel_rfl)
  obtain ⟨ij, hij, hy0, hy1, hy2⟩ := info_parts (show (Tryz.prog.info? 40).map (fun i => (i.zero, i.size, i.bytes)) = some (some (.slice none 0 0), 1, 24) by kernel_rfl)
  go_loopw [11, 12, 13, 14, 15, 16, 17, 18, 19] (fun v s c _ _ _ _ _ _ wr => ∃ (i : Nat) (W : World) (v0 : Value), W = wr ∧ v0 = v ∧ i ≤ len ∧ s = .int .i64 i ∧ c = .int .i64 i ∧ Hid (WhI V1 A i v0 W)) (fun _ _ c _ _ _ _ _ _ _ => len - (RowKit.intOf c).toNat)
  case atStart => exact ⟨0, _, _, rfl, rfl, Nat.zero_le _, rfl, rfl, HJ0⟩
  case round =>
    obtain ⟨i, W, v0, rfl, rfl, hi, rfl, rfl, HJ⟩ := hrel
    clear HJ0
    have i0 : (0 : Int) ≤ (i : Int) := by omega
    by_cases hlt : i < len
    · have i1 : (i : Int) < (len : Int) := by omega
      have hi8 : i ≤ 8 := Nat.le_trans hi h40n
      obtain ⟨bb, oo, hae, hbb, hzc⟩ := HZ.out.elem (by omega)
      obtain ⟨hx1, _⟩ := hzc i hlt
      have hkw := HKV.out.step (whI_kept HJ.out)
      have exz := (World.cell?_of_block (a := ⟨bb, oo + i, none⟩) (hkw.block bb hbb)).trans hx1
      clear hzc hx1 hkw hbb
      subst hae
      obtain ⟨y, hy⟩ : ∃ y, zs.getD i 0 = y := ⟨_, rfl⟩
      rw [hy] at exz
      clear hy
      obtain ⟨n0, n, hnl, hnh, hnw, hnw2, hn1, hn2⟩ := wh_size y
      have HN : Hid (1 ≤ n ∧ n ≤ 5) := Lib.hid ⟨hnl, hnh⟩
      clear hnl hnh
      go_wp2_with fail
      rw [hn2]
      clear hnw hnw2 hn1 hn2
      generalize (IntKind.u64.wrap y).tmod 5 = y3
      generalize IntKind.u64.wrap y = y4
      obtain ⟨W7, hW7⟩ : ∃ W7, W.alloc (.cells #[] 3) = W7 := ⟨_, rfl⟩
      obtain ⟨p6, S6, h6, a6, L6, vs6, hS6, hF6, hM6⟩ := whI_start HJ.out hW7
      have HS6 := Lib.hid hS6
      have HF6 := Lib.hid hF6
      have HM0 := Lib.hid hM6
      obtain ⟨v7, hv7⟩ : ∃ v, Value.slice (some ⟨W.heap.size, 0, none⟩) 0 0 = v := ⟨_, rfl⟩
      rw [hW7, hv7]
      rw [hv7] at HM0
      obtain ⟨W9, hW9⟩ : ∃ W9, W = W9 := ⟨_, rfl⟩
      rw [hW9] at HM0
      clear hS6 hF6 hM6 HJ hW7 hv7 exz hW9
      go_loopw [15, 16, 17, 18] (fun v c _ _ wr => ∃ (k : Nat) (W : World) (v1 : Value), W = wr ∧ v1 = v ∧ k ≤ n ∧ c = .int .i64 k ∧ Hid (WhM V1 W9 A p6 S6 h6 a6 L6 vs6 v0 i k v1 W)) (fun _ c _ _ _ => n - (RowKit.intOf c).toNat)
      case atStart => exact ⟨0, _, _, rfl, rfl, Nat.zero_le _, rfl, HM0⟩
      case round =>
        obtain ⟨k, W, v1, rfl, rfl, hk, rfl, HM⟩ := hrel
        clear HM0
        have k0 : (0 : Int) ≤ (k : Int) := by omega
        by_cases hkn : k < n
        · have k1 : (k : Int) < (n : Int) := by omega
          have hk4 : k ≤ 4 := by have := HN.out; omega
          obtain ⟨hu, y, hy, hy1, e1, e2, e5, e3, e4, e6⟩ := wh_nums i k hi8 (Nat.le_succ_of_le hk4)
          have CK := Lib.hid (l7node (100 * (i : Int) + (k : Int)) y (by rw [e1, e3]; exact ku_of y (Nat.lt_trans hy1 (by decide))) W)
          clear e1 e2 e3 e4 e5 e6
          have HY := Lib.hid hy
          clear hy hy1
          go_wp2_with (go_at_call 14; refine CK.out.mono ?_)
          rintro e W6 hR
          unfold NodeS at hR
          obtain ⟨g, rfl, hps, hg, k6⟩ := hR
          rw [← HY.out] at hps
          obtain ⟨Q, q, q1, q2, hQ, CA⟩ := whM_add HM.out HT1.out HLO.out HF6.out.len hk4 W6 k6 g hps
          have HCA := Lib.hid CA
          have HQ := Lib.hid hQ
          have q3 : q ≤ 30 := Nat.le_of_lt q2
          clear hps hg k6 CA hQ CK HM HY
          go_wp2_with (go_at_call 13; refine HCA.out.mono ?_)
          rintro e W7 ⟨rfl, hH⟩
          have hrow : W7.ownsRow W9.heap.size 3 1 v1 k (Q.map encZ) := by
            obtain ⟨P, K, h1, h2, h3, h4, h5, h6, _⟩ := hH
            exact h6
          have HROW := Lib.hid hrow
          have hsz7 : W9.heap.size ≤ W7.heap.size := whH_size hH
          have HH := Lib.hid hH
          clear hH hrow HCA
          go_wp2_with (at_builtin; refine wpList_append_own _ rfl _ _ 40 rfl W9.heap.size 3 ii (.int .i64 0) 1 8 Tryz.underlying40 hii hz0 hz1 hz2 rfl (by decide) _ _ _ rfl (HROW.out.alloc _) ⟨W7.heap.size, 0, none⟩ 1 1 [.int .i64 (q : Int)] rfl rfl (cell_one_new _ _ _) (by simp [Value.oneCell']) (by unfold maxLen; omega) (by omega) (by rw [World.size_alloc]; omega) ?_)
          intro v' w8 hown' hgrow _
          have HM2 : Hid (WhM V1 W9 A p6 S6 h6 a6 L6 vs6 v0 i (k + 1) v' w8) := Lib.hid (whH_app HH.out HQ.out _ hgrow hown')
          clear hown' hgrow HH HROW hsz7 HQ
          go_wp2_with fail
          go_roundw
          case rel => exact ⟨k + 1, _, _, rfl, rfl, by omega, by go_num, HM2⟩
          case measure => simp [RowKit.intOf]; omega
        · obtain rfl : k = n := by omega
          have hk1 : 0 < k := by have := HN.out; omega
          have hk5 : k ≤ 5 := by have := HN.out; omega
          obtain ⟨gv, cv, rfl⟩ := whM_shape HM.out hk1
          have hrow : W.ownsRow V1.heap.size 40 1 v0 (i + 1) vs6 := by
            obtain ⟨P, K, Q, h1, h2, h3, h4, h5, h6, h7, h8, _⟩ := HM.out
            exact h8
          have HROW := Lib.hid hrow
          have hszw : V1.heap.size ≤ W.heap.size := (whM_kept HM.out).size
          clear hrow
          go_wp2_with (at_builtin; refine wpList_append_own _ rfl _ _ 80 rfl V1.heap.size 40 ij (.slice none 0 0) 1 24 Tryz.underlying80 hij hy0 hy1 hy2 rfl (by decide) _ _ _ rfl (HROW.out.alloc _) ⟨W.heap.size, 0, none⟩ 1 1 [.slice (some ⟨gv, 0, none⟩) k cv] rfl rfl (cell_one_new _ _ _) (by simp [Value.oneCell']) (by unfold maxLen; omega) (by omega) (by rw [World.size_alloc]; omega) ?_)
          intro v8 w8 hown' hgrow _
          have hC : WhC V1 A p6 S6 h6 a6 L6 vs6 v8 i k (.slice (some ⟨gv, 0, none⟩) k cv) w8 := whM_list HM.out hk1 _ hgrow hown'
          obtain ⟨gc, capc, rc, hv1, ec, CC⟩ := whC_commit hC HS6.out HF6.out HT1.out HLO.out hk1 hk5 hi8
          simp only [Value.slice.injEq, Option.some.injEq, Addr.mk.injEq, and_true, true_and] at hv1
          obtain ⟨rfl, rfl⟩ := hv1
          have HCC := Lib.hid CC
          have k00 : (0 : Int) < (k : Int) := by omega
          clear hC CC hown' hgrow HM HROW hszw HF6 HS6
          go_wp2_with (go_at_call 19; refine HCC.out.mono ?_)
          rintro e W2 hR
          unfold WhR at hR
          rcases hR with ⟨rfl, hI⟩ | ⟨rfl, hI⟩
          · have HJ2 := Lib.hid hI
            clear hI HCC
            go_wp2_with fail
            go_roundw
            case rel => exact ⟨i + 1, _, _, rfl, rfl, by omega, by go_num, by go_num, HJ2⟩
            case measure => simp [RowKit.intOf]; omega
          · have HWT := Lib.hid hI
            clear hI HCC
            have hln9 : i ≤ 8 := hi8
            obtain ⟨gl, cl, rfl⟩ := whT_shape HWT.out (Nat.succ_pos _)
            obtain ⟨ln, hln⟩ : ∃ ln, i+2 = ln := ⟨_, rfl⟩
            rw [hln] at HWT
            rw [hln]
            clear hln
            have C1 := Lib.hid (whT_cut HWT.out HLO.out)
            go_wp2_with (go_at_call 38; refine C1.out.mono ?_)
            rintro e Wa ⟨rfl, hU⟩
            have C2 := Lib.hid (whU_settle hU HLO.out l HL.out)
            clear C1 hU HWT
            go_wp2_with (go_at_call 39; refine C2.out.mono ?_)
            rintro e Wb hR
            unfold WhS at hR
            obtain ⟨rfl, t, h0, L, hor, htl, hgen, hV⟩ := hR
            have C3 := Lib.hid (whV_come hV HLO.out)
            have HOR := Lib.hid hor
            have HTL := Lib.hid htl
            have HGEN := Lib.hid hgen
            clear C2 hV hor htl hgen
            go_wp2_with (go_at_call 40; refine C3.out.mono ?_)
            rintro e Wc ⟨rfl, hV⟩
            have C4 := Lib.hid (whV_open hV HT1.out)
            clear C3 hV
            go_wp2_with (go_at_call 31; refine C4.out.mono ?_)
            rintro e Wd hR
            unfold WhOS at hR
            obtain ⟨B, rfl, hO⟩ := hR
            have C5 := Lib.hid (whO_head hO Wd (KeptIn.refl _ _))
            have HO := Lib.hid hO
            obtain ⟨gn, rt, sl, ft, ck⟩ := h0
            obtain rfl : gn = t + 1 := HGEN.out
            unfold headV at C5
            have rg := run_gen ((t + 1 : Nat) : Int) rt sl ft ck
            have rr := run_root ((t + 1 : Nat) : Int) rt sl ft ck
            clear C4 HGEN
            obtain ⟨g1, hg1⟩ : ∃ g1, t + 1 = g1 := ⟨_, rfl⟩
            simp only [hg1] at C5 rg rr
            have HHQ : Hid (∀ V, KeptIn (· < Wd.heap.size) Wd V → Calls Tryz.prog 26 #[.pointer (some ⟨B.st, 0, none⟩)] V fun e w' => e = .returned (.agg #[.int .u64 (g1 : Int), .int .i64 rt, .int .i64 sl, .int .i64 ft, .int .i64 ck]) ∧ KeptIn (· < Wd.heap.size) Wd w') := Lib.hid fun V hV => by
              have := whO_head (whO_old HO.out hV) Wd hV
              unfold headV at this
              simp only [hg1] at this
              exact this
            clear C5 hO
            obtain ⟨n1, _, _, n4, n5⟩ := wh_at t g1 hg1 (wh_bound HOR.out hln9)
            rename_i n2 n3
            clear n2 n3
            have hkd : KeptIn (· < Wd.heap.size) Wd Wd := KeptIn.refl _ _
            have t1 : (t : Int) < (ln : Int) := Int.ofNat_lt.2 HTL.out
            have t2 : ¬ (ln : Int) ≤ (t : Int) := Int.not_le.2 t1
            have t6 : ¬ ln ≤ t := Nat.not_le.2 HTL.out
            have t7 : t < ln := HTL.out
            clear hg1
            have HOR2 := Lib.hid (wh_bound HOR.out hln9)
            rcases HOR.out with hti | hti
            · subst hti
              by_cases ht0 : t = 0
              · have z1 : (t : Int) = 0 := (wh_zero t).1 ht0
                obtain rfl : rt = 0 := whO_root HO.out ht0
                have t3 : ¬ (ln : Int) ≤ 0 := by rw [← z1]; exact t2
                have t4 : ¬ ln = 0 := fun e => t3 (by rw [e]; exact Int.le_refl _)
                have t5 : (0 : Int) < (ln : Int) := by rw [← z1]; exact t1
                go_wp2_with (go_at_call 26; refine (HHQ.out _ hkd).mono ?_; rintro e We ⟨rfl, hkd⟩)
                go_ret
                exact ⟨rfl, HKV.out.step ((whO_kept HO.out).step hkd)⟩
              · have z1 : ¬ (t : Int) = 0 := (wh_zero t).2 ht0
                have tp : 0 < t := Nat.pos_of_ne_zero ht0
                have z2 : ((t : Int) == 0) = false := beq_eq_false_iff_ne.2 z1
                obtain ⟨r2, r3, rfl, gc, cc, g2, cap2, eg, hcl⟩ := whO_cells HO.out tp HTL.out
                simp only [Value.slice.injEq, Option.some.injEq, Addr.mk.injEq, and_true, true_and] at eg
                obtain ⟨rfl, rfl⟩ := eg
                have HCL := Lib.hid hcl
                have HLL := Lib.hid (And.intro r2 r3)
                have HTP := Lib.hid tp
                have t0 : (0 : Int) ≤ (t : Int) := Int.natCast_nonneg t
                obtain ⟨nl, hnl⟩ : ∃ nl, L.length = nl := ⟨_, rfl⟩
                obtain ⟨r0, hr0⟩ : ∃ r0, L.getD 0 0 = r0 := ⟨_, rfl⟩
                have HC0 : Hid (∀ V, KeptIn (· < Wd.heap.size) Wd V → V.cell? ⟨gl, t, none⟩ = some (.slice (some ⟨g2, 0, none⟩) nl cap2) ∧ V.cell? ⟨g2, 0, none⟩ = some (.int .i64 r0)) := Lib.hid fun V hV => by
                  obtain ⟨x1, x2⟩ := HCL.out V hV
                  rw [hnl] at x1
                  rw [← hr0]
                  exact ⟨x1, x2 0 HLL.out.1⟩
                have p1 : (0 : Int) < (nl : Int) := by rw [← hnl]; exact Int.ofNat_lt.2 r2
                have p2 : 0 < nl := by rw [← hnl]; exact r2
                simp only [hr0] at HHQ rr rg HO
                have HNL := Lib.hid hnl
                clear hcl r2 r3 tp hnl hr0 ht0
                have C5 := Lib.hid (HHQ.out Wd hkd)
                clear hkd
                go_wp2_with (go_at_call 26; refine C5.out.mono ?_)
                rintro e We ⟨rfl, hke⟩
                clear C5
                go_upto_region 39 with fail
                rw [n4]
                clear n1 n4
                go_wp2_with fail
                have hk0 : KeptIn (· < Wd.heap.size) Wd We.drew := hke.drew
                obtain ⟨c0, c1⟩ := HC0.out _ hk0
                go_region_held3 (fun w' => w'.cell? ⟨gl, t, none⟩ = some (.slice (some ⟨g2, 0, none⟩) nl cap2) ∧ w'.cell? ⟨g2, 0, none⟩ = some (.int .i64 r0))
                  (first | exact HC0.out _ hk | exact ⟨c0, c1⟩)
                  (first | (go_at_call 26; refine Calls.mono (HHQ.out _ (by first | exact hk | exact hk0)) ?_; rintro e w' ⟨rfl, hk⟩))
                all_goals
                  (try clear m6 m8 m9 m10 m11 m3 m7)
                  have HK9 : Hid (KeptIn (· < Wd.heap.size) Wd w') := Lib.hid (by assumption)
                  rename_i hHeld
                  clear hHeld hk0 hke c0 c1 HHQ rg rr HTL HOR
                  go_wp2_with fail
                  go_loopw [23, 24, 25] (fun c _ _ wr => ∃ (k : Nat) (W : World), W = wr ∧ k ≤ nl ∧ c = .int .i64 k ∧ Hid (KeptIn (· < Wd.heap.size) Wd W)) (fun c _ _ _ => nl - (RowKit.intOf c).toNat)
                  case atStart => exact ⟨0, _, rfl, Nat.zero_le _, rfl, HK9⟩
                  case round =>
                    obtain ⟨k9, W, rfl, hk9, rfl, HJ⟩ := hrel
                    clear HK9
                    have k90 : (0 : Int) ≤ (k9 : Int) := Int.natCast_nonneg k9
                    obtain ⟨c0, _⟩ := HC0.out _ HJ.out
                    by_cases hkn9 : k9 < nl
                    · have k91 : (k9 : Int) < (nl : Int) := Int.ofNat_lt.2 hkn9
                      have hkl : k9 < L.length := by rw [HNL.out]; exact hkn9
                      obtain ⟨rx, hrx⟩ : ∃ rx, L.getD k9 0 = rx := ⟨_, rfl⟩
                      have cx := (HCL.out W HJ.out).2 k9 hkl
                      rw [hrx] at cx
                      obtain ⟨u, v9, y9, hy9, hyb, s1, s2, s3, s4, s5, s6⟩ := wh_read t k9 nl HTP.out HOR2.out hkn9 (by rw [← HNL.out]; exact HLL.out.2)
                      have CR := whO_read (whO_old HO.out HJ.out) HT1.out HTP.out k9 hkl (by rw [← hy9]; exact hyb)
                      obtain ⟨b1, b2', b3⟩ := bytesK_read y9 hyb
                      rw [← hy9, hrx] at CR
                      have HCR := Lib.hid CR
                      have HB := Lib.hid (And.intro b2' b3)
                      have HYB := Lib.hid hyb
                      clear CR b1 b2' b3 hrx hy9 hyb hkl
                      go_wp2_with (go_at_call 21; refine HCR.out.mono ?_)
                      rintro e W7 hR
                      unfold ReadL at hR
                      obtain ⟨a7, cap7, rfl, hps7, k7⟩ := hR
                      rw [HB.out.2] at hps7 ⊢
                      rw [HB.out.1]
                      unfold leafV
                      have hlen : (psK y9).length = 1 := rfl
                      rw [hlen]
                      obtain ⟨W8, hW8⟩ : ∃ W8, W7.alloc (.cells #[.int .i64 0, .slice a7 1 cap7] 47) = W8 := ⟨_, rfl⟩
                      have k8 : KeptIn (· < W7.heap.size) W7 W8 := by rw [← hW8]; exact (KeptIn.refl _ W7).alloc (fun _ h => h) _
                      have hbx : BoxL W7.heap.size 0 a7 1 cap7 W8 := by rw [← hW8]; exact BoxL.new W7 0 a7 1 cap7
                      have hps := hps7.old k8
                      obtain ⟨bl, hbl⟩ : ∃ bl, W7.heap.size = bl := ⟨_, rfl⟩
                      rw [hbl] at hbx
                      have HX : Hid (∀ V, KeptIn (· < W8.heap.size) W8 V → (V.cell? ⟨bl, 0, none⟩ = some (.int .i64 0) ∧ V.cell? ⟨bl, 1, none⟩ = some (.slice a7 1 cap7)) ∧ IsPs V a7 (psK y9)) := Lib.hid fun V hV =>
                        ⟨⟨(hbx.kept hV hbx.lt).c0, (hbx.kept hV hbx.lt).c1⟩, hps.old hV⟩
                      have HN7 := Lib.hid fun V (hV : KeptIn (· < W8.heap.size) W8 V) => nodeQ (y9 : Int) y9 (ku_of y9 HYB.out) W8 V hV
                      have HS7 := Lib.hid fun V a b ca cb (hV : KeptIn (· < W8.heap.size) W8 V) (ha : IsPs V a (psK y9)) (hb : IsPs V b (psK y9)) => sameQ y9 y9 W8 V a b ca cb hV ha hb
                      have HEND := Lib.hid fun V (hV : KeptIn (· < W8.heap.size) W8 V) => (HJ.out.step (k7.step k8)).step hV
                      have HW8 := Lib.hid hW8
                      have HBL := Lib.hid hbl
                      clear hbx hps hps7 k7 k8 hlen hW8 hbl HCR HJ
                      go_wp2_with fail
                      rw [HW8.out, HBL.out]
                      have hk0 : KeptIn (· < W8.heap.size) W8 W8.drew := (KeptIn.refl _ _).drew
                      obtain ⟨⟨c2, c1⟩, p0⟩ := HX.out _ hk0
                      clear c0 cx
                      go_region_held3 (fun w' => w'.cell? ⟨bl, 0, none⟩ = some (.int .i64 0) ∧ w'.cell? ⟨bl, 1, none⟩ = some (.slice a7 1 cap7))
                        (first | exact (HX.out _ hk).1 | exact ⟨c2, c1⟩)
                        (first
                          | (go_at_call 14; refine Calls.mono (HN7.out _ (by first | exact hk | exact hk0)) ?_; rintro e w' hR; unfold NodeQ at hR; obtain ⟨g, rfl, hg, hk⟩ := hR)
                          | (go_at_call 22; refine Calls.mono (HS7.out _ _ _ _ _ hk (HX.out _ hk).2 hg) ?_; rintro e w' ⟨rfl, hk⟩))
                      all_goals
                        have HK10 := Lib.hid (HEND.out _ (by assumption))
                        rename_i hHeld
                        clear hHeld hk0 c2 c1 p0 HX HN7 HS7 HEND HB HW8 HBL s1 s2 s3 s4 s5 s6
                        go_wp2_with fail
                        have hw9 : wrap64 ((k9 : Int) + 1) = (k9 : Int) + 1 := wh_wrap hkn9 (by rw [← HNL.out]; exact HLL.out.2)
                        rw [hw9]
                        clear hw9
                        go_roundw
                        case rel => exact ⟨k9 + 1, _, rfl, Nat.succ_le_of_lt hkn9, wh_cast k9, HK10⟩
                        case measure =>
                          simp only [RowKit.intOf]
                          exact wh_meas hkn9
                    · have k91 : (nl : Int) ≤ (k9 : Int) := Int.ofNat_le.2 (Nat.not_lt.1 hkn9)
                      have k92 : ¬ k9 < nl := hkn9
                      clear hkn9
                      go_wp2_with fail
                      go_ret
                      exact ⟨rfl, HKV.out.step ((whO_kept HO.out).step HJ.out)⟩
            · obtain ⟨m1, m3⟩ := wh_ne t i hti
              have m2 : wrap64 ((i : Int) + 1) = (t : Int) := by rw [m1]; exact n5
              have m1' := m1.symm
              clear m1
              have ht0 : ¬ t = 0 := by rw [hti]; exact Nat.succ_ne_zero i
              have m6 : decide ((t : Int) = wrap64 ((i : Int) + 1)) = true := by rw [m2]; exact decide_eq_true rfl
              have m7 : ¬ t = i := fun e => m3 (by rw [e])
              have m8 : t = i + 1 ↔ True := ⟨fun _ => trivial, fun _ => hti⟩
              have m9 : (t : Int) = (i : Int) + 1 ↔ True := ⟨fun _ => trivial, fun _ => m1'⟩
              have m10 : ((t : Int) != (i : Int) + 1) = false := by rw [m1']; exact bne_self_eq_false _
              have m11 : ((t : Int) != (i : Int)) = true := bne_iff_ne.2 m3
              clear hti m2 m1'
              have z1 : ¬ (t : Int) = 0 := (wh_zero t).2 ht0
              have tp : 0 < t := Nat.pos_of_ne_zero ht0
              have z2 : ((t : Int) == 0) = false := beq_eq_false_iff_ne.2 z1
              obtain ⟨r2, r3, rfl, gc, cc, g2, cap2, eg, hcl⟩ := whO_cells HO.out tp HTL.out
              simp only [Value.slice.injEq, Option.some.injEq, Addr.mk.injEq, and_true, true_and] at eg
              obtain ⟨rfl, rfl⟩ := eg
              have HCL := Lib.hid hcl
              have HLL := Lib.hid (And.intro r2 r3)
              have HTP := Lib.hid tp
              have t0 : (0 : Int) ≤ (t : Int) := Int.natCast_nonneg t
              obtain ⟨nl, hnl⟩ : ∃ nl, L.length = nl := ⟨_, rfl⟩
              obtain ⟨r0, hr0⟩ : ∃ r0, L.getD 0 0 = r0 := ⟨_, rfl⟩
              have HC0 : Hid (∀ V, KeptIn (· < Wd.heap.size) Wd V → V.cell? ⟨gl, t, none⟩ = some (.slice (some ⟨g2, 0, none⟩) nl cap2) ∧ V.cell? ⟨g2, 0, none⟩ = some (.int .i64 r0)) := Lib.hid fun V hV => by
                obtain ⟨x1, x2⟩ := HCL.out V hV
                rw [hnl] at x1
                rw [← hr0]
                exact ⟨x1, x2 0 HLL.out.1⟩
              have p1 : (0 : Int) < (nl : Int) := by rw [← hnl]; exact Int.ofNat_lt.2 r2
              have p2 : 0 < nl := by rw [← hnl]; exact r2
              simp only [hr0] at HHQ rr rg HO
              have HNL := Lib.hid hnl
              clear hcl r2 r3 tp hnl hr0 ht0
              have C5 := Lib.hid (HHQ.out Wd hkd)
              clear hkd
              go_wp2_with (go_at_call 26; refine C5.out.mono ?_)
              rintro e We ⟨rfl, hke⟩
              clear C5
              go_upto_region 39 with fail
              rw [n4]
              clear n1 n4
              go_wp2_with fail
              have hk0 : KeptIn (· < Wd.heap.size) Wd We.drew := hke.drew
              obtain ⟨c0, c1⟩ := HC0.out _ hk0
              go_region_held3 (fun w' => w'.cell? ⟨gl, t, none⟩ = some (.slice (some ⟨g2, 0, none⟩) nl cap2) ∧ w'.cell? ⟨g2, 0, none⟩ = some (.int .i64 r0))
                (first | exact HC0.out _ hk | exact ⟨c0, c1⟩)
                (first | (go_at_call 26; refine Calls.mono (HHQ.out _ (by first | exact hk | exact hk0)) ?_; rintro e w' ⟨rfl, hk⟩))
              all_goals
                (try clear m6 m8 m9 m10 m11 m3 m7)
                have HK9 : Hid (KeptIn (· < Wd.heap.size) Wd w') := Lib.hid (by assumption)
                rename_i hHeld
                clear hHeld hk0 hke c0 c1 HHQ rg rr HTL HOR
                go_wp2_with fail
                go_loopw [23, 24, 25] (fun c _ _ wr => ∃ (k : Nat) (W : World), W = wr ∧ k ≤ nl ∧ c = .int .i64 k ∧ Hid (KeptIn (· < Wd.heap.size) Wd W)) (fun c _ _ _ => nl - (RowKit.intOf c).toNat)
                case atStart => exact ⟨0, _, rfl, Nat.zero_le _, rfl, HK9⟩
                case round =>
                  obtain ⟨k9, W, rfl, hk9, rfl, HJ⟩ := hrel
                  clear HK9
                  have k90 : (0 : Int) ≤ (k9 : Int) := Int.natCast_nonneg k9
                  obtain ⟨c0, _⟩ := HC0.out _ HJ.out
                  by_cases hkn9 : k9 < nl
                  · have k91 : (k9 : Int) < (nl : Int) := Int.ofNat_lt.2 hkn9
                    have hkl : k9 < L.length := by rw [HNL.out]; exact hkn9
                    obtain ⟨rx, hrx⟩ : ∃ rx, L.getD k9 0 = rx := ⟨_, rfl⟩
                    have cx := (HCL.out W HJ.out).2 k9 hkl
                    rw [hrx] at cx
                    obtain ⟨u, v9, y9, hy9, hyb, s1, s2, s3, s4, s5, s6⟩ := wh_read t k9 nl HTP.out HOR2.out hkn9 (by rw [← HNL.out]; exact HLL.out.2)
                    have CR := whO_read (whO_old HO.out HJ.out) HT1.out HTP.out k9 hkl (by rw [← hy9]; exact hyb)
                    obtain ⟨b1, b2', b3⟩ := bytesK_read y9 hyb
                    rw [← hy9, hrx] at CR
                    have HCR := Lib.hid CR
                    have HB := Lib.hid (And.intro b2' b3)
                    have HYB := Lib.hid hyb
                    clear CR b1 b2' b3 hrx hy9 hyb hkl
                    go_wp2_with (go_at_call 21; refine HCR.out.mono ?_)
                    rintro e W7 hR
                    unfold ReadL at hR
                    obtain ⟨a7, cap7, rfl, hps7, k7⟩ := hR
                    rw [HB.out.2] at hps7 ⊢
                    rw [HB.out.1]
                    unfold leafV
                    have hlen : (psK y9).length = 1 := rfl
                    rw [hlen]
                    obtain ⟨W8, hW8⟩ : ∃ W8, W7.alloc (.cells #[.int .i64 0, .slice a7 1 cap7] 47) = W8 := ⟨_, rfl⟩
                    have k8 : KeptIn (· < W7.heap.size) W7 W8 := by rw [← hW8]; exact (KeptIn.refl _ W7).alloc (fun _ h => h) _
                    have hbx : BoxL W7.heap.size 0 a7 1 cap7 W8 := by rw [← hW8]; exact BoxL.new W7 0 a7 1 cap7
                    have hps := hps7.old k8
                    obtain ⟨bl, hbl⟩ : ∃ bl, W7.heap.size = bl := ⟨_, rfl⟩
                    rw [hbl] at hbx
                    have HX : Hid (∀ V, KeptIn (· < W8.heap.size) W8 V → (V.cell? ⟨bl, 0, none⟩ = some (.int .i64 0) ∧ V.cell? ⟨bl, 1, none⟩ = some (.slice a7 1 cap7)) ∧ IsPs V a7 (psK y9)) := Lib.hid fun V hV =>
                      ⟨⟨(hbx.kept hV hbx.lt).c0, (hbx.kept hV hbx.lt).c1⟩, hps.old hV⟩
                    have HN7 := Lib.hid fun V (hV : KeptIn (· < W8.heap.size) W8 V) => nodeQ (y9 : Int) y9 (ku_of y9 HYB.out) W8 V hV
                    have HS7 := Lib.hid fun V a b ca cb (hV : KeptIn (· < W8.heap.size) W8 V) (ha : IsPs V a (psK y9)) (hb : IsPs V b (psK y9)) => sameQ y9 y9 W8 V a b ca cb hV ha hb
                    have HEND := Lib.hid fun V (hV : KeptIn (· < W8.heap.size) W8 V) => (HJ.out.step (k7.step k8)).step hV
                    have HW8 := Lib.hid hW8
                    have HBL := Lib.hid hbl
                    clear hbx hps hps7 k7 k8 hlen hW8 hbl HCR HJ
                    go_wp2_with fail
                    rw [HW8.out, HBL.out]
                    have hk0 : KeptIn (· < W8.heap.size) W8 W8.drew := (KeptIn.refl _ _).drew
                    obtain ⟨⟨c2, c1⟩, p0⟩ := HX.out _ hk0
                    clear c0 cx
                    go_region_held3 (fun w' => w'.cell? ⟨bl, 0, none⟩ = some (.int .i64 0) ∧ w'.cell? ⟨bl, 1, none⟩ = some (.slice a7 1 cap7))
                      (first | exact (HX.out _ hk).1 | exact ⟨c2, c1⟩)
                      (first
                        | (go_at_call 14; refine Calls.mono (HN7.out _ (by first | exact hk | exact hk0)) ?_; rintro e w' hR; unfold NodeQ at hR; obtain ⟨g, rfl, hg, hk⟩ := hR)
                        | (go_at_call 22; refine Calls.mono (HS7.out _ _ _ _ _ hk (HX.out _ hk).2 hg) ?_; rintro e w' ⟨rfl, hk⟩))
                    all_goals
                      have HK10 := Lib.hid (HEND.out _ (by assumption))
                      rename_i hHeld
                      clear hHeld hk0 c2 c1 p0 HX HN7 HS7 HEND HB HW8 HBL s1 s2 s3 s4 s5 s6
                      go_wp2_with fail
                      have hw9 : wrap64 ((k9 : Int) + 1) = (k9 : Int) + 1 := wh_wrap hkn9 (by rw [← HNL.out]; exact HLL.out.2)
                      rw [hw9]
                      clear hw9
                      go_roundw
                      case rel => exact ⟨k9 + 1, _, rfl, Nat.succ_le_of_lt hkn9, wh_cast k9, HK10⟩
                      case measure =>
                        simp only [RowKit.intOf]
                        exact wh_meas hkn9
                  · have k91 : (nl : Int) ≤ (k9 : Int) := Int.ofNat_le.2 (Nat.not_lt.1 hkn9)
                    have k92 : ¬ k9 < nl := hkn9
                    clear hkn9
                    go_wp2_with fail
                    go_ret
                    exact ⟨rfl, HKV.out.step ((whO_kept HO.out).step HJ.out)⟩
    · obtain rfl : i = len := by omega
      have HWT := Lib.hid (whT_done HJ.out)
      clear HJ
      have hln9 : i ≤ 8 := h40n
      obtain ⟨gl, cl, rfl⟩ := whT_shape HWT.out (Nat.succ_pos _)
      obtain ⟨ln, hln⟩ : ∃ ln, (i+1) = ln := ⟨_, rfl⟩
      rw [hln] at HWT
      rw [hln]
      clear hln
      have C1 := Lib.hid (whT_cut HWT.out HLO.out)
      go_wp2_with (go_at_call 38; refine C1.out.mono ?_)
      rintro e Wa ⟨rfl, hU⟩
      have C2 := Lib.hid (whU_settle hU HLO.out l HL.out)
      clear C1 hU HWT
      go_wp2_with (go_at_call 39; refine C2.out.mono ?_)
      rintro e Wb hR
      unfold WhS at hR
      obtain ⟨rfl, t, h0, L, hor, htl, hgen, hV⟩ := hR
      have C3 := Lib.hid (whV_come hV HLO.out)
      have HOR := Lib.hid hor
      have HTL := Lib.hid htl
      have HGEN := Lib.hid hgen
      clear C2 hV hor htl hgen
      go_wp2_with (go_at_call 40; refine C3.out.mono ?_)
      rintro e Wc ⟨rfl, hV⟩
      have C4 := Lib.hid (whV_open hV HT1.out)
      clear C3 hV
      go_wp2_with (go_at_call 31; refine C4.out.mono ?_)
      rintro e Wd hR
      unfold WhOS at hR
      obtain ⟨B, rfl, hO⟩ := hR
      have C5 := Lib.hid (whO_head hO Wd (KeptIn.refl _ _))
      have HO := Lib.hid hO
      obtain ⟨gn, rt, sl, ft, ck⟩ := h0
      obtain rfl : gn = t + 1 := HGEN.out
      unfold headV at C5
      have rg := run_gen ((t + 1 : Nat) : Int) rt sl ft ck
      have rr := run_root ((t + 1 : Nat) : Int) rt sl ft ck
      clear C4 HGEN
      obtain ⟨g1, hg1⟩ : ∃ g1, t + 1 = g1 := ⟨_, rfl⟩
      simp only [hg1] at C5 rg rr
      have HHQ : Hid (∀ V, KeptIn (· < Wd.heap.size) Wd V → Calls Tryz.prog 26 #[.pointer (some ⟨B.st, 0, none⟩)] V fun e w' => e = .returned (.agg #[.int .u64 (g1 : Int), .int .i64 rt, .int .i64 sl, .int .i64 ft, .int .i64 ck]) ∧ KeptIn (· < Wd.heap.size) Wd w') := Lib.hid fun V hV => by
        have := whO_head (whO_old HO.out hV) Wd hV
        unfold headV at this
        simp only [hg1] at this
        exact this
      clear C5 hO
      obtain ⟨n1, _, _, n4, n5⟩ := wh_at t g1 hg1 (wh_bound HOR.out hln9)
      rename_i n2 n3
      clear n2 n3
      have hkd : KeptIn (· < Wd.heap.size) Wd Wd := KeptIn.refl _ _
      have t1 : (t : Int) < (ln : Int) := Int.ofNat_lt.2 HTL.out
      have t2 : ¬ (ln : Int) ≤ (t : Int) := Int.not_le.2 t1
      have t6 : ¬ ln ≤ t := Nat.not_le.2 HTL.out
      have t7 : t < ln := HTL.out
      clear hg1
      have HOR2 := Lib.hid (wh_bound HOR.out hln9)
      rcases HOR.out with hti | hti
      · subst hti
        by_cases ht0 : t = 0
        · have z1 : (t : Int) = 0 := (wh_zero t).1 ht0
          obtain rfl : rt = 0 := whO_root HO.out ht0
          have t3 : ¬ (ln : Int) ≤ 0 := by rw [← z1]; exact t2
          have t4 : ¬ ln = 0 := fun e => t3 (by rw [e]; exact Int.le_refl _)
          have t5 : (0 : Int) < (ln : Int) := by rw [← z1]; exact t1
          go_wp2_with (go_at_call 26; refine (HHQ.out _ hkd).mono ?_; rintro e We ⟨rfl, hkd⟩)
          go_ret
          exact ⟨rfl, HKV.out.step ((whO_kept HO.out).step hkd)⟩
        · have z1 : ¬ (t : Int) = 0 := (wh_zero t).2 ht0
          have tp : 0 < t := Nat.pos_of_ne_zero ht0
          have z2 : ((t : Int) == 0) = false := beq_eq_false_iff_ne.2 z1
          obtain ⟨r2, r3, rfl, gc, cc, g2, cap2, eg, hcl⟩ := whO_cells HO.out tp HTL.out
          simp only [Value.slice.injEq, Option.some.injEq, Addr.mk.injEq, and_true, true_and] at eg
          obtain ⟨rfl, rfl⟩ := eg
          have HCL := Lib.hid hcl
          have HLL := Lib.hid (And.intro r2 r3)
          have HTP := Lib.hid tp
          have t0 : (0 : Int) ≤ (t : Int) := Int.natCast_nonneg t
          obtain ⟨nl, hnl⟩ : ∃ nl, L.length = nl := ⟨_, rfl⟩
          obtain ⟨r0, hr0⟩ : ∃ r0, L.getD 0 0 = r0 := ⟨_, rfl⟩
          have HC0 : Hid (∀ V, KeptIn (· < Wd.heap.size) Wd V → V.cell? ⟨gl, t, none⟩ = some (.slice (some ⟨g2, 0, none⟩) nl cap2) ∧ V.cell? ⟨g2, 0, none⟩ = some (.int .i64 r0)) := Lib.hid fun V hV => by
            obtain ⟨x1, x2⟩ := HCL.out V hV
            rw [hnl] at x1
            rw [← hr0]
            exact ⟨x1, x2 0 HLL.out.1⟩
          have p1 : (0 : Int) < (nl : Int) := by rw [← hnl]; exact Int.ofNat_lt.2 r2
          have p2 : 0 < nl := by rw [← hnl]; exact r2
          simp only [hr0] at HHQ rr rg HO
          have HNL := Lib.hid hnl
          clear hcl r2 r3 tp hnl hr0 ht0
          have C5 := Lib.hid (HHQ.out Wd hkd)
          clear hkd
          go_wp2_with (go_at_call 26; refine C5.out.mono ?_)
          rintro e We ⟨rfl, hke⟩
          clear C5
          go_upto_region 39 with fail
          rw [n4]
          clear n1 n4
          go_wp2_with fail
          have hk0 : KeptIn (· < Wd.heap.size) Wd We.drew := hke.drew
          obtain ⟨c0, c1⟩ := HC0.out _ hk0
          go_region_held3 (fun w' => w'.cell? ⟨gl, t, none⟩ = some (.slice (some ⟨g2, 0, none⟩) nl cap2) ∧ w'.cell? ⟨g2, 0, none⟩ = some (.int .i64 r0))
            (first | exact HC0.out _ hk | exact ⟨c0, c1⟩)
            (first | (go_at_call 26; refine Calls.mono (HHQ.out _ (by first | exact hk | exact hk0)) ?_; rintro e w' ⟨rfl, hk⟩))
          all_goals
            (try clear m6 m8 m9 m10 m11 m3 m7)
            have HK9 : Hid (KeptIn (· < Wd.heap.size) Wd w') := Lib.hid (by assumption)
            rename_i hHeld
            clear hHeld hk0 hke c0 c1 HHQ rg rr HTL HOR
            go_wp2_with fail
            go_loopw [23, 24, 25] (fun c _ _ wr => ∃ (k : Nat) (W : World), W = wr ∧ k ≤ nl ∧ c = .int .i64 k ∧ Hid (KeptIn (· < Wd.heap.size) Wd W)) (fun c _ _ _ => nl - (RowKit.intOf c).toNat)
            case atStart => exact ⟨0, _, rfl, Nat.zero_le _, rfl, HK9⟩
            case round =>
              obtain ⟨k9, W, rfl, hk9, rfl, HJ⟩ := hrel
              clear HK9
              have k90 : (0 : Int) ≤ (k9 : Int) := Int.natCast_nonneg k9
              obtain ⟨c0, _⟩ := HC0.out _ HJ.out
              by_cases hkn9 : k9 < nl
              · have k91 : (k9 : Int) < (nl : Int) := Int.ofNat_lt.2 hkn9
                have hkl : k9 < L.length := by rw [HNL.out]; exact hkn9
                obtain ⟨rx, hrx⟩ : ∃ rx, L.getD k9 0 = rx := ⟨_, rfl⟩
                have cx := (HCL.out W HJ.out).2 k9 hkl
                rw [hrx] at cx
                obtain ⟨u, v9, y9, hy9, hyb, s1, s2, s3, s4, s5, s6⟩ := wh_read t k9 nl HTP.out HOR2.out hkn9 (by rw [← HNL.out]; exact HLL.out.2)
                have CR := whO_read (whO_old HO.out HJ.out) HT1.out HTP.out k9 hkl (by rw [← hy9]; exact hyb)
                obtain ⟨b1, b2', b3⟩ := bytesK_read y9 hyb
                rw [← hy9, hrx] at CR
                have HCR := Lib.hid CR
                have HB := Lib.hid (And.intro b2' b3)
                have HYB := Lib.hid hyb
                clear CR b1 b2' b3 hrx hy9 hyb hkl
                go_wp2_with (go_at_call 21; refine HCR.out.mono ?_)
                rintro e W7 hR
                unfold ReadL at hR
                obtain ⟨a7, cap7, rfl, hps7, k7⟩ := hR
                rw [HB.out.2] at hps7 ⊢
                rw [HB.out.1]
                unfold leafV
                have hlen : (psK y9).length = 1 := rfl
                rw [hlen]
                obtain ⟨W8, hW8⟩ : ∃ W8, W7.alloc (.cells #[.int .i64 0, .slice a7 1 cap7] 47) = W8 := ⟨_, rfl⟩
                have k8 : KeptIn (· < W7.heap.size) W7 W8 := by rw [← hW8]; exact (KeptIn.refl _ W7).alloc (fun _ h => h) _
                have hbx : BoxL W7.heap.size 0 a7 1 cap7 W8 := by rw [← hW8]; exact BoxL.new W7 0 a7 1 cap7
                have hps := hps7.old k8
                obtain ⟨bl, hbl⟩ : ∃ bl, W7.heap.size = bl := ⟨_, rfl⟩
                rw [hbl] at hbx
                have HX : Hid (∀ V, KeptIn (· < W8.heap.size) W8 V → (V.cell? ⟨bl, 0, none⟩ = some (.int .i64 0) ∧ V.cell? ⟨bl, 1, none⟩ = some (.slice a7 1 cap7)) ∧ IsPs V a7 (psK y9)) := Lib.hid fun V hV =>
                  ⟨⟨(hbx.kept hV hbx.lt).c0, (hbx.kept hV hbx.lt).c1⟩, hps.old hV⟩
                have HN7 := Lib.hid fun V (hV : KeptIn (· < W8.heap.size) W8 V) => nodeQ (y9 : Int) y9 (ku_of y9 HYB.out) W8 V hV
                have HS7 := Lib.hid fun V a b ca cb (hV : KeptIn (· < W8.heap.size) W8 V) (ha : IsPs V a (psK y9)) (hb : IsPs V b (psK y9)) => sameQ y9 y9 W8 V a b ca cb hV ha hb
                have HEND := Lib.hid fun V (hV : KeptIn (· < W8.heap.size) W8 V) => (HJ.out.step (k7.step k8)).step hV
                have HW8 := Lib.hid hW8
                have HBL := Lib.hid hbl
                clear hbx hps hps7 k7 k8 hlen hW8 hbl HCR HJ
                go_wp2_with fail
                rw [HW8.out, HBL.out]
                have hk0 : KeptIn (· < W8.heap.size) W8 W8.drew := (KeptIn.refl _ _).drew
                obtain ⟨⟨c2, c1⟩, p0⟩ := HX.out _ hk0
                clear c0 cx
                go_region_held3 (fun w' => w'.cell? ⟨bl, 0, none⟩ = some (.int .i64 0) ∧ w'.cell? ⟨bl, 1, none⟩ = some (.slice a7 1 cap7))
                  (first | exact (HX.out _ hk).1 | exact ⟨c2, c1⟩)
                  (first
                    | (go_at_call 14; refine Calls.mono (HN7.out _ (by first | exact hk | exact hk0)) ?_; rintro e w' hR; unfold NodeQ at hR; obtain ⟨g, rfl, hg, hk⟩ := hR)
                    | (go_at_call 22; refine Calls.mono (HS7.out _ _ _ _ _ hk (HX.out _ hk).2 hg) ?_; rintro e w' ⟨rfl, hk⟩))
                all_goals
                  have HK10 := Lib.hid (HEND.out _ (by assumption))
                  rename_i hHeld
                  clear hHeld hk0 c2 c1 p0 HX HN7 HS7 HEND HB HW8 HBL s1 s2 s3 s4 s5 s6
                  go_wp2_with fail
                  have hw9 : wrap64 ((k9 : Int) + 1) = (k9 : Int) + 1 := wh_wrap hkn9 (by rw [← HNL.out]; exact HLL.out.2)
                  rw [hw9]
                  clear hw9
                  go_roundw
                  case rel => exact ⟨k9 + 1, _, rfl, Nat.succ_le_of_lt hkn9, wh_cast k9, HK10⟩
                  case measure =>
                    simp only [RowKit.intOf]
                    exact wh_meas hkn9
              · have k91 : (nl : Int) ≤ (k9 : Int) := Int.ofNat_le.2 (Nat.not_lt.1 hkn9)
                have k92 : ¬ k9 < nl := hkn9
                clear hkn9
                go_wp2_with fail
                go_ret
                exact ⟨rfl, HKV.out.step ((whO_kept HO.out).step HJ.out)⟩
      · obtain ⟨m1, m3⟩ := wh_ne t i hti
        have m2 : wrap64 ((i : Int) + 1) = (t : Int) := by rw [m1]; exact n5
        have m1' := m1.symm
        clear m1
        have ht0 : ¬ t = 0 := by rw [hti]; exact Nat.succ_ne_zero i
        have m6 : decide ((t : Int) = wrap64 ((i : Int) + 1)) = true := by rw [m2]; exact decide_eq_true rfl
        have m7 : ¬ t = i := fun e => m3 (by rw [e])
        have m8 : t = i + 1 ↔ True := ⟨fun _ => trivial, fun _ => hti⟩
        have m9 : (t : Int) = (i : Int) + 1 ↔ True := ⟨fun _ => trivial, fun _ => m1'⟩
        have m10 : ((t : Int) != (i : Int) + 1) = false := by rw [m1']; exact bne_self_eq_false _
        have m11 : ((t : Int) != (i : Int)) = true := bne_iff_ne.2 m3
        clear hti m2 m1'
        have z1 : ¬ (t : Int) = 0 := (wh_zero t).2 ht0
        have tp : 0 < t := Nat.pos_of_ne_zero ht0
        have z2 : ((t : Int) == 0) = false := beq_eq_false_iff_ne.2 z1
        obtain ⟨r2, r3, rfl, gc, cc, g2, cap2, eg, hcl⟩ := whO_cells HO.out tp HTL.out
        simp only [Value.slice.injEq, Option.some.injEq, Addr.mk.injEq, and_true, true_and] at eg
        obtain ⟨rfl, rfl⟩ := eg
        have HCL := Lib.hid hcl
        have HLL := Lib.hid (And.intro r2 r3)
        have HTP := Lib.hid tp
        have t0 : (0 : Int) ≤ (t : Int) := Int.natCast_nonneg t
        obtain ⟨nl, hnl⟩ : ∃ nl, L.length = nl := ⟨_, rfl⟩
        obtain ⟨r0, hr0⟩ : ∃ r0, L.getD 0 0 = r0 := ⟨_, rfl⟩
        have HC0 : Hid (∀ V, KeptIn (· < Wd.heap.size) Wd V → V.cell? ⟨gl, t, none⟩ = some (.slice (some ⟨g2, 0, none⟩) nl cap2) ∧ V.cell? ⟨g2, 0, none⟩ = some (.int .i64 r0)) := Lib.hid fun V hV => by
          obtain ⟨x1, x2⟩ := HCL.out V hV
          rw [hnl] at x1
          rw [← hr0]
          exact ⟨x1, x2 0 HLL.out.1⟩
        have p1 : (0 : Int) < (nl : Int) := by rw [← hnl]; exact Int.ofNat_lt.2 r2
        have p2 : 0 < nl := by rw [← hnl]; exact r2
        simp only [hr0] at HHQ rr rg HO
        have HNL := Lib.hid hnl
        clear hcl r2 r3 tp hnl hr0 ht0
        have C5 := Lib.hid (HHQ.out Wd hkd)
        clear hkd
        go_wp2_with (go_at_call 26; refine C5.out.mono ?_)
        rintro e We ⟨rfl, hke⟩
        clear C5
        go_upto_region 39 with fail
        rw [n4]
        clear n1 n4
        go_wp2_with fail
        have hk0 : KeptIn (· < Wd.heap.size) Wd We.drew := hke.drew
        obtain ⟨c0, c1⟩ := HC0.out _ hk0
        go_region_held3 (fun w' => w'.cell? ⟨gl, t, none⟩ = some (.slice (some ⟨g2, 0, none⟩) nl cap2) ∧ w'.cell? ⟨g2, 0, none⟩ = some (.int .i64 r0))
          (first | exact HC0.out _ hk | exact ⟨c0, c1⟩)
          (first | (go_at_call 26; refine Calls.mono (HHQ.out _ (by first | exact hk | exact hk0)) ?_; rintro e w' ⟨rfl, hk⟩))
        all_goals
          (try clear m6 m8 m9 m10 m11 m3 m7)
          have HK9 : Hid (KeptIn (· < Wd.heap.size) Wd w') := Lib.hid (by assumption)
          rename_i hHeld
          clear hHeld hk0 hke c0 c1 HHQ rg rr HTL HOR
          go_wp2_with fail
          go_loopw [23, 24, 25] (fun c _ _ wr => ∃ (k : Nat) (W : World), W = wr ∧ k ≤ nl ∧ c = .int .i64 k ∧ Hid (KeptIn (· < Wd.heap.size) Wd W)) (fun c _ _ _ => nl - (RowKit.intOf c).toNat)
          case atStart => exact ⟨0, _, rfl, Nat.zero_le _, rfl, HK9⟩
          case round =>
            obtain ⟨k9, W, rfl, hk9, rfl, HJ⟩ := hrel
            clear HK9
            have k90 : (0 : Int) ≤ (k9 : Int) := Int.natCast_nonneg k9
            obtain ⟨c0, _⟩ := HC0.out _ HJ.out
            by_cases hkn9 : k9 < nl
            · have k91 : (k9 : Int) < (nl : Int) := Int.ofNat_lt.2 hkn9
              have hkl : k9 < L.length := by rw [HNL.out]; exact hkn9
              obtain ⟨rx, hrx⟩ : ∃ rx, L.getD k9 0 = rx := ⟨_, rfl⟩
              have cx := (HCL.out W HJ.out).2 k9 hkl
              rw [hrx] at cx
              obtain ⟨u, v9, y9, hy9, hyb, s1, s2, s3, s4, s5, s6⟩ := wh_read t k9 nl HTP.out HOR2.out hkn9 (by rw [← HNL.out]; exact HLL.out.2)
              have CR := whO_read (whO_old HO.out HJ.out) HT1.out HTP.out k9 hkl (by rw [← hy9]; exact hyb)
              obtain ⟨b1, b2', b3⟩ := bytesK_read y9 hyb
              rw [← hy9, hrx] at CR
              have HCR := Lib.hid CR
              have HB := Lib.hid (And.intro b2' b3)
              have HYB := Lib.hid hyb
              clear CR b1 b2' b3 hrx hy9 hyb hkl
              go_wp2_with (go_at_call 21; refine HCR.out.mono ?_)
              rintro e W7 hR
              unfold ReadL at hR
              obtain ⟨a7, cap7, rfl, hps7, k7⟩ := hR
              rw [HB.out.2] at hps7 ⊢
              rw [HB.out.1]
              unfold leafV
              have hlen : (psK y9).length = 1 := rfl
              rw [hlen]
              obtain ⟨W8, hW8⟩ : ∃ W8, W7.alloc (.cells #[.int .i64 0, .slice a7 1 cap7] 47) = W8 := ⟨_, rfl⟩
              have k8 : KeptIn (· < W7.heap.size) W7 W8 := by rw [← hW8]; exact (KeptIn.refl _ W7).alloc (fun _ h => h) _
              have hbx : BoxL W7.heap.size 0 a7 1 cap7 W8 := by rw [← hW8]; exact BoxL.new W7 0 a7 1 cap7
              have hps := hps7.old k8
              obtain ⟨bl, hbl⟩ : ∃ bl, W7.heap.size = bl := ⟨_, rfl⟩
              rw [hbl] at hbx
              have HX : Hid (∀ V, KeptIn (· < W8.heap.size) W8 V → (V.cell? ⟨bl, 0, none⟩ = some (.int .i64 0) ∧ V.cell? ⟨bl, 1, none⟩ = some (.slice a7 1 cap7)) ∧ IsPs V a7 (psK y9)) := Lib.hid fun V hV =>
                ⟨⟨(hbx.kept hV hbx.lt).c0, (hbx.kept hV hbx.lt).c1⟩, hps.old hV⟩
              have HN7 := Lib.hid fun V (hV : KeptIn (· < W8.heap.size) W8 V) => nodeQ (y9 : Int) y9 (ku_of y9 HYB.out) W8 V hV
              have HS7 := Lib.hid fun V a b ca cb (hV : KeptIn (· < W8.heap.size) W8 V) (ha : IsPs V a (psK y9)) (hb : IsPs V b (psK y9)) => sameQ y9 y9 W8 V a b ca cb hV ha hb
              have HEND := Lib.hid fun V (hV : KeptIn (· < W8.heap.size) W8 V) => (HJ.out.step (k7.step k8)).step hV
              have HW8 := Lib.hid hW8
              have HBL := Lib.hid hbl
              clear hbx hps hps7 k7 k8 hlen hW8 hbl HCR HJ
              go_wp2_with fail
              rw [HW8.out, HBL.out]
              have hk0 : KeptIn (· < W8.heap.size) W8 W8.drew := (KeptIn.refl _ _).drew
              obtain ⟨⟨c2, c1⟩, p0⟩ := HX.out _ hk0
              clear c0 cx
              go_region_held3 (fun w' => w'.cell? ⟨bl, 0, none⟩ = some (.int .i64 0) ∧ w'.cell? ⟨bl, 1, none⟩ = some (.slice a7 1 cap7))
                (first | exact (HX.out _ hk).1 | exact ⟨c2, c1⟩)
                (first
                  | (go_at_call 14; refine Calls.mono (HN7.out _ (by first | exact hk | exact hk0)) ?_; rintro e w' hR; unfold NodeQ at hR; obtain ⟨g, rfl, hg, hk⟩ := hR)
                  | (go_at_call 22; refine Calls.mono (HS7.out _ _ _ _ _ hk (HX.out _ hk).2 hg) ?_; rintro e w' ⟨rfl, hk⟩))
              all_goals
                have HK10 := Lib.hid (HEND.out _ (by assumption))
                rename_i hHeld
                clear hHeld hk0 c2 c1 p0 HX HN7 HS7 HEND HB HW8 HBL s1 s2 s3 s4 s5 s6
                go_wp2_with fail
                have hw9 : wrap64 ((k9 : Int) + 1) = (k9 : Int) + 1 := wh_wrap hkn9 (by rw [← HNL.out]; exact HLL.out.2)
                rw [hw9]
                clear hw9
                go_roundw
                case rel => exact ⟨k9 + 1, _, rfl, Nat.succ_le_of_lt hkn9, wh_cast k9, HK10⟩
                case measure =>
                  simp only [RowKit.intOf]
                  exact wh_meas hkn9
            · have k91 : (nl : Int) ≤ (k9 : Int) := Int.ofNat_le.2 (Nat.not_lt.1 hkn9)
              have k92 : ¬ k9 < nl := hkn9
              clear hkn9
              go_wp2_with fail
              go_ret
              exact ⟨rfl, HKV.out.step ((whO_kept HO.out).step HJ.out)⟩

end Go.Proofs.YtefompndoopceaaGreatDoor
