import Derived.Test.YtjollbaohopmjaaCn9W
import Derived.Maps.RangeWalk
import Derived.OwnWalk
/- Package reach's counts: the walk. -/
set_option linter.unusedVariables false
namespace Go.Proofs.Ytjollbaohopmjaa
open Go.RowKit Go.Maps

theorem invK9 (key : Value) (kl : Lit) (h : keyOf Try.prog 3 key = some kl) : ∃ x : Int, key = .int .i64 x := by
  obtain ⟨x, h1, _⟩ := Maps.keyOf_int_inv Try.underlying3 h
  exact ⟨x, h1⟩
theorem invV9 (v : Value) (y : DataW (Option Lf9) × List MemPlace) (h : mpR lfV9 v = some y) : ∃ c, v = lfV9 c := by
  obtain ⟨a, h1, _⟩ := mpR_inv h
  exact ⟨a, h1⟩
theorem keyLit9 {q : Int} {kl : Lit} (h : keyOf Try.prog 3 (.int .i64 q) = some kl) : kl = .int .i64 q ∧ (Lit.int .i64 q).wf = true := by
  obtain ⟨x, h1, h2, h3⟩ := Maps.keyOf_int_inv Try.underlying3 h
  cases h1
  exact ⟨h2, h3⟩

/-- What counts leaves. -/
def CnS (w : World) (N : List Nd) (rs : List Int) (M : Int → Option (Option Lf9)) (e : Ending) (w' : World) : Prop :=
  ∃ y n, e = .returned (.map (some y)) ∧ MpAt cnV y n (cnM (cnA N rs fun q => (M q).isSome)) w' ∧ w.heap.size ≤ y ∧ KeptIn (· < w.heap.size) w w'

set_option maxRecDepth 100000 in
set_option maxHeartbeats 4000000 in
theorem rcCounts {N : List Nd} {w : World} {s x c cap : Nat} {M : Int → Option (Option Lf9)} {a : Option Addr} {rs : List Int} (hm : IsMm w x c N M) (hr : IntsL w a rs) (hrl : rs.length ≤ 1000) (hc : c ≤ 90000) (hlen : ∀ (i : Nat) (h : i < N.length), N[i].2.length ≤ 1000) (hwf : ∀ r ∈ rs, (Lit.int .i64 r).wf = true) :
    Calls Try.prog 15 #[mmV s x, .slice a rs.length cap] w (CnS w N rs M) := by
  obtain ⟨W, hW⟩ : ∃ W, (w.alloc (.cells #[pgV s, .map (some x)] 60)).alloc (.map #[] 0) = W := ⟨_, rfl⟩
  have hk : KeptIn (· < w.heap.size) w W := by rw [← hW]; exact ((KeptIn.refl _ w).alloc (fun _ h => h) _).alloc (fun _ h => h) _
  obtain ⟨B, hB⟩ : ∃ B, w.heap.size = B := ⟨_, rfl⟩
  have b0 : W.heap[B]? = some (.cells #[pgV s, .map (some x)] 60 (0, 0)) := by
    rw [← hW, ← hB, Lib.alloc_old _ _ _ (by simp)]
    exact heap_alloc_new w _
  have hT : MpAt cnV (B + 1) 0 (fun _ => none) W := by
    have := MpAt.new (V := cnV) (w.alloc (.cells #[pgV s, .map (some x)] 60))
    rw [World.size_alloc, hB, hW] at this
    exact this
  have H0 : Hid (CnI w x c (B + 1) 0 B s N M (cnR (rs.take 0)) W) := Lib.hid ⟨hm.old hk, by
    have e : cnM (cnR (rs.take 0)) = fun _ => none := by funext q; simp [cnM, cnR]
    rw [e]; exact hT, by have := hm.lt; omega, by omega, b0, hk, fun q => by simp [cnR]⟩
  have HRS := Lib.hid (And.intro hr (And.intro hrl (And.intro hc (And.intro hlen hwf))))
  obtain ⟨D, hown, hsays⟩ := hm.map
  have HD := Lib.hid hsays
  have HOWN := Lib.hid hown
  have hxlt := hm.lt
  have HX := Lib.hid hxlt
  have HW := Lib.hid (And.intro hW hB)
  obtain ⟨n, hn⟩ : ∃ n, rs.length = n := ⟨_, rfl⟩
  have HN := Lib.hid hn
  unfold mmV pgV at *
  rw [hn]
  have hn1 : n ≤ 1000 := by omega
  clear hm hr hc hW hk b0 hT hB hn hown hsays hrl hlen hwf hxlt
  go_enter Try.func15, Try.ntmps15
  have hmm := @run_makeMap Try.prog
  go_upto_region 2 with fail
  clear hmm
  rw [HW.out.1]
  try simp only [World.size_alloc]
  try rw [HW.out.2]
  go_wp2_with fail
  go_loopw [7, 15] (fun _ i wr => ∃ (j : Nat) (V : World), V = wr ∧ i = .int .i64 (j : Int) ∧ j ≤ n ∧ Hid (CnI w x c (B + 1) j B s N M (cnR (rs.take j)) V)) (fun _ i _ => n - (RowKit.intOf i).toNat)
  case atStart => exact ⟨0, _, rfl, rfl, Nat.zero_le _, H0⟩
  case round =>
    obtain ⟨j, V, rfl, rfl, hjn, HJ⟩ := hrel
    clear H0
    by_cases hlt : j < n
    · have hjr : j < rs.length := by rw [HN.out]; exact hlt
      obtain ⟨t1, t2, t3, t4⟩ := rg_idx j n hlt hn1
      obtain ⟨gk, off, rfl, hgl, hcl⟩ := HRS.out.1.cells (by omega)
      have e0 := hcl j hjr
      have e1 : V.cell? ⟨gk, off + j, none⟩ = some (.int .i64 (rs.getD j 0)) := (World.cell?_of_block (a := ⟨gk, off + j, none⟩) (HJ.out.kept.block gk hgl)).trans e0
      obtain ⟨r, hr⟩ : ∃ r, rs[j] = r := ⟨_, rfl⟩
      have hrd : rs.getD j 0 = r := by rw [List.getD_eq_getElem?_getD, List.getElem?_eq_getElem hjr]; exact hr
      rw [hrd] at e1
      have hwr := HRS.out.2.2.2.2 rs[j] (List.getElem_mem hjr)
      rw [hr] at hwr
      have hst : ∀ q, cnR (rs.take (j + 1)) q = cnR (rs.take j) q + (if q = r ∧ r ≠ 0 then 1 else 0) := fun q => by
        rw [List.take_add_one, List.getElem?_eq_getElem hjr, hr]
        exact cnR_snoc _ _ _
      by_cases h0 : r = 0
      · have HJ2 : Hid (CnI w x c (B + 1) (j + 1) B s N M (cnR (rs.take (j + 1))) V) := Lib.hid ((HJ.out.nLe (Nat.le_succ _)).cEq fun q => by rw [hst, if_neg (fun e => e.2 h0)]; rfl)
        subst h0
        clear hcl e0 hrd hr hwr hst hjr HJ t3
        go_wp2_with fail
        go_roundw
        case rel => exact ⟨j + 1, _, rfl, congrArg (Value.int .i64) (rg_succ j), by omega, HJ2⟩
        case measure => simp only [RowKit.intOf]; exact rg_meas j n hlt
      · have hlk := HJ.out.look r hwr
        obtain ⟨V2, hup, hI2, -, -⟩ := HJ.out.up (by unfold maxLen; omega) r hwr
        have hcb := HJ.out.cb r
        have HJ2 : Hid (CnI w x c (B + 1) (j + 1) B s N M (cnR (rs.take (j + 1))) V2) := Lib.hid (hI2.cEq fun q => by
          rw [hst]
          unfold cnUp
          by_cases hq : q = r
          · rw [if_pos hq, if_pos ⟨hq, h0⟩, hq]
          · rw [if_neg hq, if_neg (fun e => hq e.1)]; rfl)
        obtain ⟨cq, hcq⟩ : ∃ cq, cnR (rs.take j) r = cq := ⟨_, rfl⟩
        rw [hcq] at hlk hup hcb
        obtain ⟨k2, hk2, hk3, hk4⟩ := cn_num cq (by omega)
        rw [hk2] at hup
        have z0 : (r == 0) = false := by rw [beq_eq_false_iff_ne]; exact h0
        clear hcl e0 hrd hr hwr hst hjr HJ t3 hI2 hcq hk2 hcb
        go_wp2_with fail
        go_roundw
        case rel => exact ⟨j + 1, _, rfl, congrArg (Value.int .i64) (rg_succ j), by omega, HJ2⟩
        case measure => simp only [RowKit.intOf]; exact rg_meas j n hlt
    · obtain ⟨u1, u2⟩ := rg_ge hlt
      have HJ1 : Hid (CnI w x c (B + 1) n B s N M (cnR rs) V) := Lib.hid (by
        have := HJ.out
        rw [show j = n by omega, List.take_of_length_le (by rw [HN.out]; exact Nat.le_refl _)] at this
        exact this)
      have q1 : V.cell? ⟨B, 1, none⟩ = some (.map (some x)) := by simp [World.cell?, HJ1.out.box]
      have hown : V.ownsMap Try.prog 3 (mpR lfV9) x c D := mpBlock HOWN.out (HJ1.out.kept.block x HX.out)
      clear HJ
      go_wp2_with (first | (at_range; refine wpList_range_own _ rfl _ 58 rfl 3 27 mpLaw Try.underlying58 (mpR lfV9) x c D rfl hown ?_; intro w0 hrg0 hg0 hs0))
      have HR0 : Hid (w0.ranges Try.prog 3 (mpR lfV9) x V.heap.size c D (Maps.has D) (Maps.size D) ∧ Maps.size D ≤ c ∧ CnI w x c (B + 1) n B s N M (cnR rs) w0 ∧ V.heap.size < w0.heap.size) := Lib.hid ⟨hrg0, hown.size_le, HJ1.out.old (grown_kept0 hg0), by omega⟩
      obtain ⟨R, hR⟩ : ∃ R, V.heap.size = R := ⟨_, rfl⟩
      have HRR : Hid (R ≠ B + 1 ∧ w.heap.size ≤ R ∧ B < R) := Lib.hid (by
        have h1 := HJ1.out.cn.lt
        have h2 := HJ1.out.kept.size
        have h3 := (Array.getElem?_eq_some_iff.1 HJ1.out.box).1
        exact ⟨by omega, by omega, by omega⟩)
      rw [hR] at HR0 ⊢
      clear hrg0 hg0 hs0 hown q1 hR HJ1 u1 u2
      go_wp2_with fail
      go_loopw [9, 11] (fun _ _ wr => ∃ (t cnt : Nat) (left : Lit → Bool) (U : World), U = wr ∧ Hid (U.ranges Try.prog 3 (mpR lfV9) x R c D left cnt ∧ t + cnt ≤ c ∧ (∀ q, left (.int .i64 q) = true → (M q).isSome = true) ∧ CnI w x c (B + 1) (n + 1000 * t) B s N M (cnA N rs fun q => (M q).isSome && !left (.int .i64 q)) U ∧ R < U.heap.size)) (fun _ _ wr => wr.rangeLeft x R)
      case atStart => exact ⟨0, _, _, _, rfl, Lib.hid ⟨HR0.out.1, by have := HR0.out.2.1; omega, fun q h => by rw [← HD.out.has]; exact h, HR0.out.2.2.1.cEq fun q => by
        unfold cnA
        have : cnP N (fun q => (M q).isSome && !Maps.has D (.int .i64 q)) q = 0 := cnP_none N (fun z => by rw [HD.out.has]; cases (M z).isSome <;> rfl) q
        rw [this]; rfl, HR0.out.2.2.2⟩⟩
      case round =>
        obtain ⟨t, cnt, left, U, rfl, HU⟩ := hrel
        clear HR0
        have hrg := HU.out.1
        go_wp2_with (first | (at_next; refine wpList_next_ranges _ rfl _ rfl 3 mpLaw (mpR lfV9) (fun q : Int => .int .i64 q) lfV9 invK9 invV9 x R c D left cnt rfl hrg ?_ ?_))
        · intro hc0 hl0
          have HE : Hid (CnS w N rs M (.returned (.map (some (B + 1)))) U) := Lib.hid (by
            have h1 := HU.out.2.2.2.1
            refine ⟨B + 1, _, rfl, (h1.cEq fun q => ?_).cn, h1.yn, h1.kept⟩
            unfold cnA
            rw [cnP_congr N (P := fun q => (M q).isSome && !left (.int .i64 q)) (Q := fun q => (M q).isSome) fun z => by rw [hl0]; simp])
          clear HU hrg hl0 hc0
          go_wp2_with fail
          go_ret
          exact HE.out
        · intro q z kl yv yp w1 cnt1 hkey hlk hv hat hrg1 hlt1 hg1 hs1 hen
          obtain ⟨hkl, hwq⟩ := keyLit9 hkey
          subst hkl
          have hMz : M q = some z := by
            obtain ⟨z', hz'⟩ := Option.isSome_iff_exists.1 (HU.out.2.2.1 q hlk)
            have h1 := HD.out.at' q z' hz' (.held none)
            rw [hat, ] at h1
            rw [mpR_mk lfV9_inj z] at hv
            simp only [Option.some.injEq, Prod.mk.injEq] at hv
            rw [← hv.1] at h1
            simp only [DataW.held.injEq] at h1
            rw [hz', h1]
          obtain ⟨i, hi, g, cp, e1, e2, -, -⟩ := HU.out.2.2.2.1.mm.node q z hMz
          have hR1 : ∃ o1 a1 a2 a3, U.heap[R]? = some (.mapIter o1 a1 a2 a3) := by
            obtain ⟨es, clock, since, seen, c0, _, _, _, _, h5, _⟩ := hrg
            exact ⟨_, _, _, _, h5⟩
          obtain ⟨o1, a1, a2, a3, hR1⟩ := hR1
          have hI1 := HU.out.2.2.2.1.step hR1 hg1 HRR.out.2.1
          have hP : ∀ z : Int, ((M z).isSome && !(left (.int .i64 z) && !(Lit.int .i64 z).sameKey (.int .i64 q))) = (((M z).isSome && !left (.int .i64 z)) || decide (z = ((i + 1 : Nat) : Int))) := fun z => by
            rw [sameKey9, ← e1]
            by_cases hzq : z = q
            · subst hzq
              rw [hMz]; simp
            · simp [hzq]
          have hP0 : ((M ((i + 1 : Nat) : Int)).isSome && !left (.int .i64 ((i + 1 : Nat) : Int))) = false := by rw [← e1, hlk]; simp
          have hC : ∀ q' : Int, cnA N rs (fun z => (M z).isSome && !(left (.int .i64 z) && !(Lit.int .i64 z).sameKey (.int .i64 q))) q' = cnA N rs (fun z => (M z).isSome && !left (.int .i64 z)) q' + mlt N i q' := fun q' => by
            unfold cnA
            rw [cnP_congr N hP, cnP_add N _ hi hP0]
            omega
          obtain ⟨lv, hlv⟩ : ∃ lv, N[i].1 = lv := ⟨_, rfl⟩
          obtain ⟨len, hlen⟩ : ∃ len, N[i].2.length = len := ⟨_, rfl⟩
          have hlen1 : len ≤ 1000 := by rw [← hlen]; exact HRS.out.2.2.2.1 i hi
          rw [hlv, hlen] at e2
          subst e2
          have HS := Lib.hid (And.intro hMz (And.intro e1 (And.intro hlv hlen)))
          have HL2 : Hid (∀ z, (left (.int .i64 z) && !(Lit.int .i64 z).sameKey (.int .i64 q)) = true → (M z).isSome = true) := Lib.hid fun z hz => HU.out.2.2.1 z (by rw [Bool.and_eq_true] at hz; exact hz.1)
          have HC := Lib.hid hC
          have HT := Lib.hid (And.intro (show t + 1 + cnt1 ≤ c by have := HU.out.2.1; omega) (And.intro hrg.left_eq hlt1))
          unfold lfV9 lf9 leafV at hen
          simp only at hen
          have hRl : R < w1.heap.size := by rw [hs1]; exact HU.out.2.2.2.2
          obtain ⟨W2, hW2⟩ : ∃ W2, w1.alloc (.cells #[.int .i64 (lv : Int), .slice (some ⟨g, 0, none⟩) len cp] 27) = W2 := ⟨_, rfl⟩
          have hk2 : KeptIn (· < w1.heap.size) w1 W2 := by rw [← hW2]; exact (KeptIn.refl _ w1).alloc (fun _ h => h) _
          have hrg2 := hrg1.alloc (.cells #[.int .i64 (lv : Int), .slice (some ⟨g, 0, none⟩) len cp] 27)
          rw [hW2] at hrg2
          have hI2 := hI1.old hk2
          by_cases h0 : lv = 0
          · have hm0 : ∀ q', mlt N i q' = 0 := fun q' => by
              unfold mlt
              rw [List.getElem?_eq_getElem hi]
              simp only
              rw [if_pos (hlv.trans h0)]
            have HN2 : Hid (W2.ranges Try.prog 3 (mpR lfV9) x R c D (fun z => left z && !z.sameKey (.int .i64 q)) cnt1 ∧ t + 1 + cnt1 ≤ c ∧ (∀ z, (left (.int .i64 z) && !(Lit.int .i64 z).sameKey (.int .i64 q)) = true → (M z).isSome = true) ∧ CnI w x c (B + 1) (n + 1000 * (t + 1)) B s N M (cnA N rs fun z => (M z).isSome && !(left (.int .i64 z) && !(Lit.int .i64 z).sameKey (.int .i64 q))) W2 ∧ R < W2.heap.size) := Lib.hid ⟨hrg2, HT.out.1, HL2.out, (hI2.nLe (by omega)).cEq fun q' => by rw [HC.out, hm0]; rfl, Nat.lt_of_lt_of_le hRl hk2.size⟩
            have HW2 := Lib.hid hW2
            subst h0
            clear hkey hlk hv hat hrg1 hg1 hs1 hMz e1 hlv hlen hR1 hI1 hP hP0 hC hrg2 hk2 hI2 hm0 hrg HU HL2 HC hRl hlt1 hlen1 hwq hW2
            go_wp2_with fail
            go_roundw
            case rel => exact ⟨t + 1, cnt1, _, _, rfl, by rw [show w1.alloc (.cells #[.int .i64 0, .slice (some ⟨g, 0, none⟩) len cp] 27) = W2 from HW2.out]; exact HN2⟩
            case measure =>
              have h1 := HN2.out.1.left_eq
              rw [← HW2.out] at h1
              have h2 := HT.out.2.1
              have h3 := HT.out.2.2
              have h4 : (w1.alloc (.cells #[.int .i64 0, .slice (some ⟨g, 0, none⟩) len cp] 27)).rangeLeft x R = cnt1 := h1
              omega
          · have z0 : ((lv : Int) == 0) = false := by rw [beq_eq_false_iff_ne]; omega
            have hml : ∀ q', mlt N i q' = vls N[i].2 q' := fun q' => by
              unfold mlt
              rw [List.getElem?_eq_getElem hi]
              simp only
              rw [if_neg (fun e => h0 (hlv.symm.trans e))]
            have HML := Lib.hid hml
            obtain ⟨A, hA⟩ : ∃ A, cnA N rs (fun z => (M z).isSome && !left (.int .i64 z)) = A := ⟨_, rfl⟩
            rw [hA] at HC
            have HR2 : Hid (W2.ranges Try.prog 3 (mpR lfV9) x R c D (fun z => left z && !z.sameKey (.int .i64 q)) cnt1 ∧ CnI w x c (B + 1) (n + 1000 * t + 0) B s N M (fun q' => A q' + vls (N[i].2.take 0) q') W2 ∧ R < W2.heap.size) := Lib.hid ⟨hrg2, hI2.cEq fun q' => by rw [← hA]; simp [vls], Nat.lt_of_lt_of_le hRl hk2.size⟩
            have HW2 := Lib.hid hW2
            have hlI : (len : Int) ≤ 1000 := by omega
            have hnt : n + 1000 * t ≤ 90002000 := by have := HT.out.1; have := HRS.out.2.2.1; omega
            clear hkey hlk hv hat hrg1 hg1 hs1 hMz e1 hlv hlen hR1 hI1 hP hP0 hC hrg2 hk2 hI2 hrg HU hRl hlt1 hwq hW2 hml hA h0
            go_wp2_with fail
            rw [show w1.alloc (.cells #[.int .i64 (lv : Int), .slice (some ⟨g, 0, none⟩) len cp] 27) = W2 from HW2.out]
            go_loopw [11, 39] (fun _ i2 wr => ∃ (k : Nat) (X : World), X = wr ∧ i2 = .int .i64 (k : Int) ∧ k ≤ len ∧ Hid (X.ranges Try.prog 3 (mpR lfV9) x R c D (fun z => left z && !z.sameKey (.int .i64 q)) cnt1 ∧ CnI w x c (B + 1) (n + 1000 * t + k) B s N M (fun q' => A q' + vls (N[i].2.take k) q') X ∧ R < X.heap.size)) (fun _ i2 _ => len - (RowKit.intOf i2).toNat)
            case atStart => exact ⟨0, _, rfl, rfl, Nat.zero_le _, HR2⟩
            case round =>
              obtain ⟨k, X, rfl, rfl, hkl, HX2⟩ := hrel
              clear HR2
              have k0 : (0 : Int) ≤ (k : Int) := by omega
              by_cases hlk2 : k < len
              · have k1 : (k : Int) < (len : Int) := by omega
                obtain ⟨q3, -, -, -⟩ := HX2.out.2.1.mm.at9 HS.out.2.1 hi HS.out.1
                have hkN : k < N[i].2.length := by rw [HS.out.2.2.2]; exact hlk2
                obtain ⟨c1, c2⟩ := psG9 q3 hkN
                have hsn : ∀ q', vls (N[i].2.take (k + 1)) q' = vls (N[i].2.take k) q' + (if q' = wrap64 ((valAt N[i].2 k : Nat) : Int) then 1 else 0) := fun q' => by
                  rw [List.take_add_one, List.getElem?_eq_getElem hkN, valAt_get hkN]
                  exact vls_snoc _ _ _
                obtain ⟨kk, hkk⟩ : ∃ kk, keyAt N[i].2 k = kk := ⟨_, rfl⟩
                obtain ⟨vv, hvv⟩ : ∃ vv, valAt N[i].2 k = vv := ⟨_, rfl⟩
                rw [hkk] at c1
                rw [hvv] at c2 hsn
                obtain ⟨zz, hzz⟩ : ∃ zz, wrap64 (vv : Int) = zz := ⟨_, rfl⟩
                have hwz : (Lit.int .i64 zz).wf = true := by rw [← hzz]; exact wf_wrap64 _
                rw [hzz] at hsn
                obtain ⟨X2, hX2⟩ : ∃ X2, X.alloc (.cells #[.int .u64 (kk : Int), .int .u64 (vv : Int)] 75) = X2 := ⟨_, rfl⟩
                have hkX : KeptIn (· < X.heap.size) X X2 := by rw [← hX2]; exact (KeptIn.refl _ X).alloc (fun _ h => h) _
                have hI := HX2.out.2.1.old hkX
                have hrgX := HX2.out.1.alloc (.cells #[.int .u64 (kk : Int), .int .u64 (vv : Int)] 75)
                rw [hX2] at hrgX
                have hlkp := hI.look zz hwz
                obtain ⟨X3, hup, hI3, hk3, hz3⟩ := hI.up (by unfold maxLen; omega) zz hwz
                have hcb := hI.cb zz
                have HX3 : Hid (X3.ranges Try.prog 3 (mpR lfV9) x R c D (fun z => left z && !z.sameKey (.int .i64 q)) cnt1 ∧ CnI w x c (B + 1) (n + 1000 * t + (k + 1)) B s N M (fun q' => A q' + vls (N[i].2.take (k + 1)) q') X3 ∧ R < X3.heap.size) := Lib.hid ⟨ranges_block hrgX (hk3.block x hI.yx.symm) (hk3.block R HRR.out.1), hI3.cEq fun q' => by
                    rw [hsn]
                    unfold cnUp
                    by_cases hq : q' = zz
                    · subst hq; simp; omega
                    · rw [if_neg hq, if_neg hq, Nat.add_zero], by rw [hz3]; exact Nat.lt_of_lt_of_le HX2.out.2.2 hkX.size⟩
                obtain ⟨cq, hcq⟩ : ∃ cq, (A zz + vls (N[i].2.take k) zz) = cq := ⟨_, rfl⟩
                simp only [hcq] at hlkp hup hcb
                obtain ⟨y2, hy2, hy3, hy4⟩ := cn_num cq (by omega)
                rw [hy2] at hup
                have HZZ := Lib.hid hzz
                rw [← hX2] at hlkp hup
                clear hsn hkk hvv hwz hX2 hkX hI hrgX hI3 hk3 hz3 hcb hcq hy2 HX2 q3 hkN
                go_wp2_with fail
                go_roundw
                case rel => exact ⟨k + 1, _, rfl, by go_num, by omega, HX3⟩
                case measure => simp only [RowKit.intOf]; omega
              · have k1 : ¬ (k : Int) < (len : Int) := by omega
                have HN2 : Hid (X.ranges Try.prog 3 (mpR lfV9) x R c D (fun z => left z && !z.sameKey (.int .i64 q)) cnt1 ∧ t + 1 + cnt1 ≤ c ∧ (∀ z, (left (.int .i64 z) && !(Lit.int .i64 z).sameKey (.int .i64 q)) = true → (M z).isSome = true) ∧ CnI w x c (B + 1) (n + 1000 * (t + 1)) B s N M (cnA N rs fun z => (M z).isSome && !(left (.int .i64 z) && !(Lit.int .i64 z).sameKey (.int .i64 q))) X ∧ R < X.heap.size) := Lib.hid ⟨HX2.out.1, HT.out.1, HL2.out, (HX2.out.2.1.nLe (by omega)).cEq fun q' => by rw [HC.out, HML.out, List.take_of_length_le (by rw [HS.out.2.2.2]; omega)], HX2.out.2.2⟩
                clear HX2
                go_wp2_with fail
                go_roundw
                case rel => exact ⟨t + 1, cnt1, _, _, rfl, HN2⟩
                case measure =>
                  have h1 := HN2.out.1.left_eq
                  have h2 := HT.out.2.1
                  have h3 := HT.out.2.2
                  omega

end Go.Proofs.Ytjollbaohopmjaa
