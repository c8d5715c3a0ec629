import Derived.Test.YtlnlgapjlekehaaLk8K
import Derived.Test.YtlnlgapjlekehaaRef5K
import Derived.Test.YtlnlgapjlekehaaRf8K
import Derived.Deep.Cut
import Derived.Deep.RegionHeld3
/- TreeMap of layer 8: the reference's look at a sound tree. -/
set_option linter.unusedVariables false
namespace Go.Proofs.Ytlnlgapjlekehaa
open Go.RowKit

/-- A look brings a subtree's pages and pairs. -/
def LkP (w : World) (T B0 : Nat) (X : Nat → Prop) (ms : List Int) (qs : Pairs) (e : Ending) (w' : World) : Prop := ∃ pv qv, e = .returned (.tuple #[]) ∧ LkAt w' T B0 pv qv ms qs ∧ KeptIn (LkY w T B0) w w' ∧ ∀ k, X k → w'.heap[k]? = w.heap[k]?

theorem lk_in {p n : Nat} (h1 : 1 ≤ p) (h2 : p ≤ n) (h3 : n ≤ 511) : decide ((p : Int) < 1) = false ∧ ¬ (p : Int) < 1 ∧ decide ((n : Int) < (p : Int)) = false ∧ ¬ (n : Int) < (p : Int) ∧ ¬ p < 1 ∧ ¬ n < p := by
  refine ⟨decide_eq_false (by omega), by omega, decide_eq_false (by omega), by omega, by omega, by omega⟩

theorem lk_node {w : World} {s room T B0 ix : Nat} {N : List Nd} {D : Nat → Prop} {pv qv : Value} {ms : List Int} {qs : Pairs} {la : Option Addr} {cap l : Nat} {ps : Pairs} (h : LkAt w T B0 pv qv ms qs) (hsh : IsSh w s room N D) (hD : ∀ k, D k → k < T) (hla : w.cell? ⟨s, 0, none⟩ = some (.slice la N.length cap)) (hix : ix < N.length) (hni : N[ix] = (l, ps)) :
    ∃ b, la = some ⟨b, 0, none⟩ ∧ ∀ W, KeptIn (LkY w T B0) w W → ∃ a c, W.cell? ⟨b, ix * 2, none⟩ = some (.int .i64 (l : Int)) ∧ W.cell? ⟨b, ix * 2 + 1, none⟩ = some (.slice a ps.length c) ∧ IsPs W a ps ∧ ∀ p, a = some p → p.block < T := by
  obtain ⟨la', cap', h1, _, h3⟩ := hsh.mem
  have e := ((cell_of_row _ _ 0 _ _ _ h1).symm.trans hla)
  simp only [List.getElem?_toArray, List.getElem?_cons_zero, Option.some.injEq, Value.slice.injEq] at e
  obtain ⟨rfl, _, rfl⟩ := e
  obtain ⟨b, rfl, hb, hne, _, _, hi⟩ := h3 (by omega)
  refine ⟨b, rfl, fun W hk => ?_⟩
  have hD2 : ∀ k, D k → LkY w T B0 k := fun k hk => ⟨hsh.lt k hk, Nat.ne_of_lt (hD k hk), .inl (by have := hD k hk; have := h.lt; omega)⟩
  have hn := (hi ix hix).kept (hk.mono fun k hk => hD2 k hk.1) ⟨hb, hne⟩ (fun _ h => h)
  rw [hni] at hn
  obtain ⟨a, c, n1, n2, n3, n4⟩ := hn
  exact ⟨a, c, n1, n2, n3, fun p e => hD _ (n4 p e).1⟩
theorem lk_idx {p ix : Nat} (h : ix + 1 = p) (hp : p ≤ 511) : wrap64 ((p : Int) - 1) = (ix : Int) ∧ IntKind.i64.wrap ((p : Int) - 1) = (ix : Int) ∧ (p : Int) - 1 = (ix : Int) := by
  refine ⟨by unfold wrap64; omega, by rw [IntKind.wrap_i64]; omega, by omega⟩

/-- Blocks of pairs that a look leaves as they were. -/
def PrX (w : World) (T : Nat) (qv : Value) (X : Nat → Prop) : Prop := ∀ k, X k → k < w.heap.size ∧ k ≠ T ∧ (∃ cs fr, w.heap[k]? = some (.cells cs 38 fr)) ∧ qv.ownBlock ≠ some k

/-- What stands in the loop over a node's pairs. -/
structure LkF (w : World) (T B0 y ab ao np c2 : Nat) (L : Int) (ps : Pairs) (X : Nat → Prop) (pv qv : Value) (ms : List Int) (qs : Pairs) (V : World) : Prop where
  lk : LkAt V T B0 pv qv ms qs
  leaf : BoxL y L (some ⟨ab, ao, none⟩) np c2 V
  isps : IsPs V (some ⟨ab, ao, none⟩) ps
  low : ab < T
  kept : KeptIn (LkY w T B0) w V
  pk : ∀ k, X k → V.heap[k]? = w.heap[k]?
  pq : ∀ k, X k → qv.ownBlock ≠ some k
theorem LkF.go {w V V' : World} {T B0 y ab ao np c2 : Nat} {L : Int} {ps : Pairs} {X : Nat → Prop} {pv qv pv' qv' : Value} {ms ms' : List Int} {qs qs' : Pairs} (h : LkF w T B0 y ab ao np c2 L ps X pv qv ms qs V) (hk : KeptIn (LkY V T B0) V V') (hl : LkAt V' T B0 pv' qv' ms' qs') (h1 : ∀ k, X k → V'.heap[k]? = V.heap[k]?) (h2 : ∀ k, X k → qv'.ownBlock ≠ some k) : LkF w T B0 y ab ao np c2 L ps X pv' qv' ms' qs' V' :=
  have hT : T < V.heap.size := Nat.lt_of_lt_of_le h.lk.lt h.lk.le
  ⟨hl, h.leaf.kept hk (lky_leaf h.lk h.leaf), psAt h.isps hk (fun p e => by cases e; exact ⟨Nat.lt_trans h.low hT, Nat.ne_of_lt h.low, .inl (Nat.lt_trans h.low h.lk.lt)⟩), h.low, lky_trans h.kept hk, fun k hk => (h1 k hk).trans (h.pk k hk), h2⟩
theorem LkF.old {w V V' : World} {T B0 y ab ao np c2 : Nat} {L : Int} {ps : Pairs} {X : Nat → Prop} {pv qv : Value} {ms : List Int} {qs : Pairs} (h : LkF w T B0 y ab ao np c2 L ps X pv qv ms qs V) (hX : ∀ k, X k → k < w.heap.size) (hk : KeptIn (· < V.heap.size) V V') : LkF w T B0 y ab ao np c2 L ps X pv qv ms qs V' :=
  h.go (lky_old hk) (h.lk.old hk) (fun k h9 => hk.block k (Nat.lt_of_lt_of_le (hX k h9) h.kept.size)) h.pq


set_option maxRecDepth 100000 in
set_option maxHeartbeats 4000000 in
theorem r8look0 {N : List Nd} (Xp : Nat → Prop) (hN : N.length ≤ 511) (s room : Nat) {root has : Bool} {lv : Int} {lo hi p hig : Nat} {ps qs : Pairs} {g0 : List Nat} {w : World} {D : Nat → Prop} {T B0 : Nat} {pv qv : Value} {ms : List Int} {qs0 : Pairs} {la : Option Addr} {cap : Nat} (hla : w.cell? ⟨s, 0, none⟩ = some (.slice la N.length cap)) (hsh : IsSh w s room N D) (hD : ∀ k, D k → k < T) (h : LkAt w T B0 pv qv ms qs0) (hS : SndL N root lv lo hi 0 p ps qs g0)
    (hlv : if root = true then lv = -1 else lv = 0) (h15 : ps.length ≤ 15) (hhi : hi < 18446744073709551616) (hhas : has = true → root = false ∧ hi + 1 = hig) (hnd : (ms ++ ofP (p :: g0)).Nodup) (hml : ms.length + (1 + g0.length) ≤ 511) (hq0 : qs0.length ≤ 8000) (hpx : PrX w T qv Xp) :
    Calls Try.prog 41 #[.pointer (some ⟨T, 0, none⟩), .slice la N.length cap, .int .i64 (p : Int), .int .i64 lv, .int .u64 (lo : Int), .bool has, .int .u64 (hig : Int)] w (LkP w T B0 Xp (ms ++ ofP (p :: g0)) (qs0 ++ qs)) := by
  have HPX := Lib.hid hpx
  clear hpx
  obtain ⟨ix, hix, hqi, hni⟩ := nodeOf_at hS.node
  obtain ⟨a, pc, rfl⟩ := row_sliceI h.prow
  obtain ⟨m, hm⟩ : ∃ m, ms.length = m := ⟨_, rfl⟩
  rw [hm] at h hml
  obtain ⟨p1, p2, p3, p4, p5, p6⟩ := lk_in (p := p) (n := N.length) (by omega) (by omega) hN
  have c0 := h.c0
  have c2 := h.c2
  have hp : (p : Int) ∉ ms := by
    intro hin
    have := (List.nodup_append.1 hnd).2.2 _ hin _ (List.mem_map.2 ⟨p, List.mem_cons_self, rfl⟩)
    exact this rfl
  have hrow := h.prow
  have hI : IntsL w a ms := by
    have h1 := hrow
    rw [← hm] at h1
    exact rowIntsL h1 (by unfold maxLen; omega)
  obtain ⟨nn, hnn⟩ : ∃ nn, N.length = nn := ⟨_, rfl⟩
  have hmI : (m : Int) ≤ 511 := by omega
  have HI := Lib.hid (And.intro hI (And.intro hp hm))
  have HQ0L := Lib.hid (And.intro hq0 h15)
  have HH := Lib.hid (And.intro hsh (And.intro hD (And.intro hS (And.intro hnd (And.intro hml (And.intro hlv (And.intro hhi (And.intro hhas h)))))))) 
  have HNN := Lib.hid hnn
  rw [hnn] at hla p3 p4 p6 ⊢
  have HL := Lib.hid hla
  clear hI hp hm hsh hD hS hnd hml hlv hhi hhas h hla hrow hnn
  go_enter Try.func41, Try.ntmps41
  go_wp2_with fail
  have HW0 : Hid (KeptIn (· < w.heap.size) w w) := Lib.hid (KeptIn.refl _ w)
  go_loopw [14] (fun i wr => ∃ (j : Nat), w = wr ∧ j ≤ m ∧ i = .int .i64 (j : Int)) (fun i _ => m - (intOf i).toNat)
  case atStart => exact ⟨0, rfl, Nat.zero_le _, rfl⟩
  case round =>
    obtain ⟨j, rfl, hj, rfl⟩ := hrel
    by_cases hlt : j < m
    · have d0 : (0 : Int) ≤ (j : Int) := by omega
      have d1 : (j : Int) < (m : Int) := by omega
      have hjm : j < ms.length := by rw [HI.out.2.2]; exact hlt
      obtain ⟨gb, off, rfl, hb, hc⟩ := HI.out.1.cells (by omega)
      have y0 := hc j hjm
      have hxp : ms.getD j 0 ≠ (p : Int) := fun e => HI.out.2.1 (by rw [← e, List.getD_eq_getElem?_getD, List.getElem?_eq_getElem hjm, Option.getD_some]; exact List.getElem_mem hjm)
      obtain ⟨x, hx⟩ : ∃ x, ms.getD j 0 = x := ⟨_, rfl⟩
      rw [hx] at y0 hxp
      have x1 : (x == (p : Int)) = false := by rw [beq_eq_false_iff_ne]; exact hxp
      clear hc hjm hx hb
      go_wp2_with fail
      go_roundw
      case rel => exact ⟨j + 1, trivial, by omega, by go_num⟩
      case measure => simp only [intOf]; omega
    · have d1 : ¬ (j : Int) < (m : Int) := by omega
      have hrow := HH.out.2.2.2.2.2.2.2.2.prow
      have hBw := HH.out.2.2.2.2.2.2.2.2.le
      obtain ⟨ip, hip, hp0, hp1, hp2⟩ := info_parts infoInt8
      go_wp2_with (at_builtin; refine wpList_append_own _ rfl _ _ 51 rfl B0 3 ip _ 1 8 Try.underlying51 hip hp0 hp1 hp2 rfl (by decide) _ _ _ rfl (hrow.alloc _) ⟨w.heap.size, 0, none⟩ 1 1 [.int .i64 (p : Int)] rfl rfl (World.news_of_block (cs := #[.int .i64 (p : Int)]) (t := 3) (fr := (0, 0)) (heap_alloc_new w _)) (by simp [Value.oneCell']) (by unfold maxLen; have := HI.out.2.2; omega) (by have := HI.out.2.2; omega) (by rw [World.size_alloc]; exact Nat.le_succ_of_le hBw) ?_)
      intro v' w8 hown hgrow _
      rw [HI.out.2.2] at hown
      obtain ⟨av, cv, rfl⟩ := row_sliceI hown
      obtain ⟨⟨z0, z1⟩, hat, hkp⟩ := lk_page HH.out.2.2.2.2.2.2.2.2 HI.out.2.2 hgrow hown
      have hk9 := lk_kept (T := T) (i := 0) (u := .slice av (m + 1) cv) hgrow
      have hpk : ∀ k, Xp k → (w8.setCell ⟨T, 0, none⟩ (.slice av (m + 1) cv)).heap[k]? = w.heap[k]? := fun k hk => hk9.block k ⟨(HPX.out k hk).1, (HPX.out k hk).2.1, by
        obtain ⟨cs, fr, h9⟩ := (HPX.out k hk).2.2.1
        exact rowS_ne HH.out.2.2.2.2.2.2.2.2.prow h9 (by decide)⟩
      clear hk9
      obtain ⟨b, rfl, hnode⟩ := lk_node HH.out.2.2.2.2.2.2.2.2 HH.out.1 HH.out.2.1 (by rw [HNN.out]; exact HL.out) hix hni
      obtain ⟨a2, c2', n1, n2, n3, n4⟩ := hnode _ hkp
      obtain ⟨i1, i2, i3⟩ := lk_idx hqi (by omega)
      have i4 : (0 : Int) ≤ (ix : Int) := by omega
      have i5 : (ix : Int) < (nn : Int) := by have := HNN.out; omega
      obtain ⟨hgood, hpos⟩ := fit_good' HH.out.2.2.1.fit
      obtain ⟨ab, ao, rfl, _, hcells⟩ := n3.cells hpos
      obtain ⟨W2, hW2⟩ : ∃ W2, w8.setCell ⟨T, 0, none⟩ (.slice av (m + 1) cv) = W2 := ⟨_, rfl⟩
      obtain ⟨np, hnp⟩ : ∃ np, ps.length = np := ⟨_, rfl⟩
      have HGD : Hid (∀ V, KeptIn (· < W2.heap.size) W2 V → Calls Try.prog 56 #[leafV 0 (some ⟨ab, ao, none⟩) np c2'] V fun e w' => e = .returned (.bool true) ∧ KeptIn (· < V.heap.size) V w') := Lib.hid fun V hk => by
        have := r5Good 0 (some ⟨ab, ao, none⟩) c2' ps V (by rw [← hW2] at hk; exact n3.old hk)
        rw [hnp] at this
        rw [show goodN 0 ps = true from hgood] at this
        exact this
      obtain ⟨y, hy⟩ : ∃ y, w8.heap.size = y := ⟨_, rfl⟩
      have hy2 : W2.heap.size = y := by rw [← hW2, ← hy]; simp
      rw [hnp] at n2
      rw [hW2] at hat hkp n1 n2 n3 hpk
      have HPK := Lib.hid hpk
      clear hpk
      have HV : Hid (∀ V, KeptIn (· < (W2.alloc (.cells #[.int .i64 0, .slice (some ⟨ab, ao, none⟩) np c2'] 82)).heap.size) (W2.alloc (.cells #[.int .i64 0, .slice (some ⟨ab, ao, none⟩) np c2'] 82)) V → BoxL y 0 (some ⟨ab, ao, none⟩) np c2' V ∧ IsPs V (some ⟨ab, ao, none⟩) ps ∧ KeptIn (· < W2.heap.size) W2 V) := Lib.hid fun V hk => by
        have hka : KeptIn (· < W2.heap.size) W2 (W2.alloc (.cells #[.int .i64 0, .slice (some ⟨ab, ao, none⟩) np c2'] 82)) := (KeptIn.refl _ W2).alloc (fun _ h => h) _
        have hkv := hka.go hk
        refine ⟨?_, n3.old hkv, hkv⟩
        have hb := BoxL.new W2 0 (some ⟨ab, ao, none⟩) np c2'
        rw [hy2] at hb
        exact hb.kept hk hb.lt
      have HA := Lib.hid (And.intro hat (And.intro hkp (And.intro n3 (And.intro n4 (And.intro hgood hpos)))))
      have HNP := Lib.hid hnp
      clear hat hkp n3 n4 hnode hown hgrow hrow hBw hip hp0 hp1 hp2 hgood hpos hcells hnp
      unfold leafV at HGD
      have HK0 : Hid (∀ V, IsPs V (some ⟨ab, ao, none⟩) ps → ∀ i, i < np → V.cell? ⟨ab, ao + i * 2, none⟩ = some (.int .u64 (keyAt ps i : Int)) ∧ V.cell? ⟨ab, ao + i * 2 + 1, none⟩ = some (.int .u64 (valAt ps i : Int))) := Lib.hid fun V hV => by
        obtain ⟨b9, o9, e9, _, h9⟩ := hV.cells HA.out.2.2.2.2.2
        cases e9
        rw [HNP.out] at h9
        exact h9
      have hnp0 : 0 < np := by rw [← HNP.out]; exact HA.out.2.2.2.2.2
      have hnp1 : (0 : Int) < (np : Int) := by omega
      have hnpI : (np : Int) ≤ 15 := by have := HNP.out; omega
      have hnp2 : ((np : Int) == 0) = false := by rw [beq_eq_false_iff_ne]; omega
      have hnp3 : ¬ (np : Int) = 0 := by omega
      have hnp4 : decide ((np : Int) = 0) = false := decide_eq_false hnp3
      cases root with
      | true =>
        obtain rfl : lv = -1 := by simpa using HH.out.2.2.2.2.2.1
        go_wp2_with (first
          | (go_at_call 56; refine (HGD.out _ ((KeptIn.refl _ _).alloc (fun _ h => h) _)).mono ?_; rintro e V ⟨rfl, hk⟩; have HVV := Lib.hid (HV.out V hk); have y0 := HVV.out.1.c0; have y1 := HVV.out.1.c1; clear hk))
        obtain rfl : has = false := by
          cases has with
          | false => rfl
          | true => exact absurd (HH.out.2.2.2.2.2.2.2.1 rfl).1 (by decide)
        have HUP : Hid (∀ i, i < np → True) := Lib.hid fun _ _ => trivial
        have HF0 : Hid (LkF w T B0 y ab ao np c2' 0 ps Xp (.slice av (m + 1) cv) qv (ms ++ [(p : Int)]) (qs0 ++ ps.take 0) V) := Lib.hid ⟨by simpa using HA.out.1.old HVV.out.2.2, HVV.out.1, HVV.out.2.1, HA.out.2.2.2.1 _ rfl, lky_trans HA.out.2.1 (lky_old HVV.out.2.2), fun k hk => (HVV.out.2.2.block k (Nat.lt_of_lt_of_le (HPX.out k hk).1 HA.out.2.1.size)).trans (HPK.out k hk), fun k hk => (HPX.out k hk).2.2.2⟩
        clear y0 y1
        go_loopw [16, 17] (fun i _ wr => ∃ (j : Nat) (X : World) (qw : Value), X = wr ∧ j ≤ np ∧ i = .int .i64 (j : Int) ∧ Hid (LkF w T B0 y ab ao np c2' 0 ps Xp (.slice av (m + 1) cv) qw (ms ++ [(p : Int)]) (qs0 ++ ps.take j) X)) (fun i _ _ => np - (intOf i).toNat)
        case atStart => exact ⟨0, _, _, rfl, Nat.zero_le _, rfl, HF0⟩
        case round =>
          obtain ⟨j2, X, qw, rfl, hj2, rfl, HJ⟩ := hrel
          clear HF0 HVV
          have y0 := HJ.out.leaf.c0
          have y1 := HJ.out.leaf.c1
          by_cases hlt2 : j2 < np
          · have d3 : (0 : Int) ≤ (j2 : Int) := by omega
            have d4 : (j2 : Int) < (np : Int) := by omega
            obtain ⟨x0, x1⟩ := HK0.out X HJ.out.isps j2 hlt2
            obtain ⟨kk, hkk⟩ : ∃ kk, keyAt ps j2 = kk := ⟨_, rfl⟩
            obtain ⟨vv, hvv⟩ : ∃ vv, valAt ps j2 = vv := ⟨_, rfl⟩
            rw [hkk] at x0
            rw [hvv] at x1
            have HKV := Lib.hid (And.intro hkk hvv)
            obtain ⟨xb, hxb⟩ : ∃ xb, X.heap.size = xb := ⟨_, rfl⟩
            obtain ⟨X2, hX2⟩ : ∃ X2, X.alloc (.cells #[.int .u64 (kk : Int), .int .u64 (vv : Int)] 38) = X2 := ⟨_, rfl⟩
            have HJ2 : Hid (LkF w T B0 y ab ao np c2' 0 ps Xp (.slice av (m + 1) cv) qw (ms ++ [(p : Int)]) (qs0 ++ ps.take j2) X2) := Lib.hid (by rw [← hX2]; exact HJ.out.old (fun k hk => (HPX.out k hk).1) ((KeptIn.refl _ X).alloc (fun _ h => h) _))
            have hbx : X2.heap[xb]? = some (.cells #[.int .u64 (kk : Int), .int .u64 (vv : Int)] 38 (0, 0)) := by rw [← hX2, ← hxb]; exact heap_alloc_new X _
            have w0 : X2.cell? ⟨xb, 0, none⟩ = some (.int .u64 (kk : Int)) := (cell_of_row _ _ 0 _ _ _ hbx).trans rfl
            have w1 : X2.cell? ⟨xb, 1, none⟩ = some (.int .u64 (vv : Int)) := (cell_of_row _ _ 1 _ _ _ hbx).trans rfl
            have t0 := HJ2.out.leaf.c0
            have t1 := HJ2.out.leaf.c1
            have t2 := HJ2.out.lk.c1
            have t3 := HJ2.out.lk.c0
            have HLT := Lib.hid hlt2
            have u1 := HUP.out j2 hlt2
            try rw [hkk] at u1
            have HTS : Hid (qs0 ++ ps.take (j2 + 1) = (qs0 ++ ps.take j2) ++ [(kk, vv)]) := Lib.hid (by rw [take_snoc ps j2 (by rw [HNP.out]; exact hlt2), hkk, hvv, List.append_assoc])
            clear hkk hvv hbx
            go_wp2_with fail
            obtain ⟨ii, hii, hz0, hz1, hz2⟩ := info_parts infoPair
            obtain ⟨rn, hrn⟩ : ∃ rn, (qs0 ++ ps.take j2).length = rn := ⟨_, rfl⟩
            have hrn2 : rn ≤ 10000 := by
              obtain ⟨h1, h3⟩ := HQ0L.out
              have h2 : (ps.take j2).length ≤ ps.length := by rw [List.length_take]; omega
              rw [← hrn, List.length_append]
              omega
            obtain ⟨qa, qc, rfl, _⟩ := row_slice HJ2.out.lk.qrow
            rw [hrn] at HJ2 t2
            have HL3 : Hid (LkF w T B0 y ab ao np c2' 0 ps Xp (.slice av (m + 1) cv) (.slice qa rn qc) (ms ++ [(p : Int)]) (qs0 ++ ps.take j2) X2.drew) := Lib.hid (HJ2.out.old (fun k hk => (HPX.out k hk).1) (KeptIn.refl _ X2).drew)
            have w0' : X2.drew.cell? ⟨xb, 0, none⟩ = some (.int .u64 (kk : Int)) := w0
            have w1' : X2.drew.cell? ⟨xb, 1, none⟩ = some (.int .u64 (vv : Int)) := w1
            have t2' : X2.drew.cell? ⟨T, 1, none⟩ = some (.slice qa rn qc) := t2
            obtain ⟨X3, hX3⟩ : ∃ X3, X2.drew = X3 := ⟨_, rfl⟩
            rw [hX3] at HL3 w0' w1' t2'
            have hrow8 : X3.ownsRow B0 38 2 (.slice qa rn qc) rn (cellsP (qs0 ++ ps.take j2)) := by have := HL3.out.lk.qrow; rw [hrn] at this; exact this
            have hsz8 : B0 ≤ X3.heap.size := HL3.out.lk.le
            have cc8 : (X3.alloc (.cells #[.int .u64 (kk : Int), .int .u64 (vv : Int)] 38)).cell? ⟨T, 1, none⟩ = some (.slice qa rn qc) := (World.cell?_of_block (a := ⟨T, 1, none⟩) (Lib.alloc_old X3 _ _ (Nat.lt_of_lt_of_le HL3.out.lk.lt hsz8))).trans t2'
            have hgr8 : ∀ (gg cap' : Nat) (w1 : World), (X3.alloc (.cells #[.int .u64 (kk : Int), .int .u64 (vv : Int)] 38)).grownBy w1 (Value.slice qa rn qc).ownBlock → w1.ownsRow B0 38 2 (.slice (some ⟨gg, 0, none⟩) (rn + 1) cap') (rn + 1) (cellsP (qs0 ++ ps.take j2) ++ [.int .u64 (kk : Int), .int .u64 (vv : Int)]) → ((Value.slice qa rn qc).ownBlock = some gg ∨ gg = X3.heap.size + 1) → (w1.cell? ⟨T, 1, none⟩ = some (.slice qa rn qc) ∧ w1.frozen? ⟨T, 1, none⟩ = false) ∧ Hid (LkF w T B0 y ab ao np c2' 0 ps Xp (.slice av (m + 1) cv) (.slice (some ⟨gg, 0, none⟩) (rn + 1) cap') (ms ++ [(p : Int)]) ((qs0 ++ ps.take j2) ++ [(kk, vv)]) (w1.setCell ⟨T, 1, none⟩ (.slice (some ⟨gg, 0, none⟩) (rn + 1) cap'))) := fun gg cap' w1 hg ho ha => by
              obtain ⟨f1, f2, f3⟩ := lk_pair HL3.out.lk hrn hg ho
              have hk9 := lk_kept (T := T) (i := 1) (u := .slice (some ⟨gg, 0, none⟩) (rn + 1) cap') hg
              have hle : ∀ k, Xp k → k < X3.heap.size := fun k hk => Nat.lt_of_lt_of_le (HPX.out k hk).1 HL3.out.kept.size
              refine ⟨f1, Lib.hid (HL3.out.go f3 f2 (fun k hk => hk9.block k ⟨hle k hk, (HPX.out k hk).2.1, HL3.out.pq k hk⟩) (fun k hk e => ?_))⟩
              have e2 : gg = k := by simpa [Value.ownBlock] using e
              rcases ha with h | h
              · rw [e2] at h
                exact HL3.out.pq k hk h
              · have := hle k hk
                omega
            have hTB : T < B0 := HL3.out.lk.lt
            clear HJ HJ2 t0 t1 w0 w1 t2 t3 y0 y1 x0 x1
            clear hX2
            go_region_law (first
              | (refine step_append_lies _ (by rfl) _ _ 29 (by rfl) B0 38 ii _ 2 16 Try.underlying29 hii hz0 hz1 hz2 rfl (by omega) (.slice qa rn qc) rn _ (by rfl) (hrow8.alloc _) ⟨X3.heap.size, 0, none⟩ 1 1 [.int .u64 (kk : Int), .int .u64 (vv : Int)] (by rfl) (by rfl) (World.news_of_block (cs := #[.int .u64 (kk : Int), .int .u64 (vv : Int)]) (t := 38) (fr := (0, 0)) (heap_alloc_new X3 _)) (by simp [Value.oneCell']) (by omega) (by unfold maxLen; omega) (by omega) (by simp; omega) (X3.heap.size + 1) (by simp) ?_; intro gg cap' w1 hown1 hgrow hat hlt1; obtain ⟨⟨e0', ef⟩, hmm⟩ := hgr8 gg cap' w1 hgrow hown1 hat))
            all_goals
              clear hgr8 hrow8 cc8
              go_wp2_with fail
              go_roundw
              case rel => exact ⟨j2 + 1, _, _, rfl, by have := HLT.out; omega, by go_num, by rw [HTS.out]; exact hmm⟩
              case measure => have := HLT.out; simp only [intOf]; omega
          · have d4 : ¬ (j2 : Int) < (np : Int) := by omega
            obtain ⟨rfl, rfl⟩ := HH.out.2.2.1.body
            have htk : ps.take j2 = ps := List.take_of_length_le (by rw [HNP.out]; omega)
            have HE : Hid (LkP w T B0 Xp (ms ++ ofP [p]) (qs0 ++ ps) (.returned (.tuple #[])) X) := Lib.hid ⟨_, _, rfl, by have := HJ.out.lk; rw [htk] at this; exact this, HJ.out.kept, HJ.out.pk⟩
            clear HJ htk
            go_wp2_with fail
            go_end0
            exact HE.out
      | false =>
        obtain rfl : lv = 0 := by simpa using HH.out.2.2.2.2.2.1
        have hkey : keyAt ps 0 = lo := HH.out.2.2.1.fit.2.2.2.1
        have HQ0 : Hid (∀ V, IsPs V (some ⟨ab, ao, none⟩) ps → V.cell? ⟨ab, ao, none⟩ = some (.int .u64 (lo : Int))) := Lib.hid fun V hV => by
          have := (HK0.out V hV 0 hnp0).1
          rw [hkey] at this
          simpa using this
        clear hkey
        go_wp2_with (first
          | (go_at_call 56; refine (HGD.out _ ((KeptIn.refl _ _).alloc (fun _ h => h) _)).mono ?_; rintro e V ⟨rfl, hk⟩; have HVV := Lib.hid (HV.out V hk); have y0 := HVV.out.1.c0; have y1 := HVV.out.1.c1; have q0 := HQ0.out V HVV.out.2.1; clear hk))
        cases has with
        | false =>
          have HUP : Hid (∀ i, i < np → True) := Lib.hid fun _ _ => trivial
          have HF0 : Hid (LkF w T B0 y ab ao np c2' 0 ps Xp (.slice av (m + 1) cv) qv (ms ++ [(p : Int)]) (qs0 ++ ps.take 0) V) := Lib.hid ⟨by simpa using HA.out.1.old HVV.out.2.2, HVV.out.1, HVV.out.2.1, HA.out.2.2.2.1 _ rfl, lky_trans HA.out.2.1 (lky_old HVV.out.2.2), fun k hk => (HVV.out.2.2.block k (Nat.lt_of_lt_of_le (HPX.out k hk).1 HA.out.2.1.size)).trans (HPK.out k hk), fun k hk => (HPX.out k hk).2.2.2⟩
          clear y0 y1
          go_loopw [16, 17] (fun i _ wr => ∃ (j : Nat) (X : World) (qw : Value), X = wr ∧ j ≤ np ∧ i = .int .i64 (j : Int) ∧ Hid (LkF w T B0 y ab ao np c2' 0 ps Xp (.slice av (m + 1) cv) qw (ms ++ [(p : Int)]) (qs0 ++ ps.take j) X)) (fun i _ _ => np - (intOf i).toNat)
          case atStart => exact ⟨0, _, _, rfl, Nat.zero_le _, rfl, HF0⟩
          case round =>
            obtain ⟨j2, X, qw, rfl, hj2, rfl, HJ⟩ := hrel
            clear HF0 HVV
            have y0 := HJ.out.leaf.c0
            have y1 := HJ.out.leaf.c1
            by_cases hlt2 : j2 < np
            · have d3 : (0 : Int) ≤ (j2 : Int) := by omega
              have d4 : (j2 : Int) < (np : Int) := by omega
              obtain ⟨x0, x1⟩ := HK0.out X HJ.out.isps j2 hlt2
              obtain ⟨kk, hkk⟩ : ∃ kk, keyAt ps j2 = kk := ⟨_, rfl⟩
              obtain ⟨vv, hvv⟩ : ∃ vv, valAt ps j2 = vv := ⟨_, rfl⟩
              rw [hkk] at x0
              rw [hvv] at x1
              have HKV := Lib.hid (And.intro hkk hvv)
              obtain ⟨xb, hxb⟩ : ∃ xb, X.heap.size = xb := ⟨_, rfl⟩
              obtain ⟨X2, hX2⟩ : ∃ X2, X.alloc (.cells #[.int .u64 (kk : Int), .int .u64 (vv : Int)] 38) = X2 := ⟨_, rfl⟩
              have HJ2 : Hid (LkF w T B0 y ab ao np c2' 0 ps Xp (.slice av (m + 1) cv) qw (ms ++ [(p : Int)]) (qs0 ++ ps.take j2) X2) := Lib.hid (by rw [← hX2]; exact HJ.out.old (fun k hk => (HPX.out k hk).1) ((KeptIn.refl _ X).alloc (fun _ h => h) _))
              have hbx : X2.heap[xb]? = some (.cells #[.int .u64 (kk : Int), .int .u64 (vv : Int)] 38 (0, 0)) := by rw [← hX2, ← hxb]; exact heap_alloc_new X _
              have w0 : X2.cell? ⟨xb, 0, none⟩ = some (.int .u64 (kk : Int)) := (cell_of_row _ _ 0 _ _ _ hbx).trans rfl
              have w1 : X2.cell? ⟨xb, 1, none⟩ = some (.int .u64 (vv : Int)) := (cell_of_row _ _ 1 _ _ _ hbx).trans rfl
              have t0 := HJ2.out.leaf.c0
              have t1 := HJ2.out.leaf.c1
              have t2 := HJ2.out.lk.c1
              have t3 := HJ2.out.lk.c0
              have HLT := Lib.hid hlt2
              have u1 := HUP.out j2 hlt2
              try rw [hkk] at u1
              have HTS : Hid (qs0 ++ ps.take (j2 + 1) = (qs0 ++ ps.take j2) ++ [(kk, vv)]) := Lib.hid (by rw [take_snoc ps j2 (by rw [HNP.out]; exact hlt2), hkk, hvv, List.append_assoc])
              clear hkk hvv hbx
              go_wp2_with fail
              obtain ⟨ii, hii, hz0, hz1, hz2⟩ := info_parts infoPair
              obtain ⟨rn, hrn⟩ : ∃ rn, (qs0 ++ ps.take j2).length = rn := ⟨_, rfl⟩
              have hrn2 : rn ≤ 10000 := by
                obtain ⟨h1, h3⟩ := HQ0L.out
                have h2 : (ps.take j2).length ≤ ps.length := by rw [List.length_take]; omega
                rw [← hrn, List.length_append]
                omega
              obtain ⟨qa, qc, rfl, _⟩ := row_slice HJ2.out.lk.qrow
              rw [hrn] at HJ2 t2
              have HL3 : Hid (LkF w T B0 y ab ao np c2' 0 ps Xp (.slice av (m + 1) cv) (.slice qa rn qc) (ms ++ [(p : Int)]) (qs0 ++ ps.take j2) X2.drew) := Lib.hid (HJ2.out.old (fun k hk => (HPX.out k hk).1) (KeptIn.refl _ X2).drew)
              have w0' : X2.drew.cell? ⟨xb, 0, none⟩ = some (.int .u64 (kk : Int)) := w0
              have w1' : X2.drew.cell? ⟨xb, 1, none⟩ = some (.int .u64 (vv : Int)) := w1
              have t2' : X2.drew.cell? ⟨T, 1, none⟩ = some (.slice qa rn qc) := t2
              obtain ⟨X3, hX3⟩ : ∃ X3, X2.drew = X3 := ⟨_, rfl⟩
              rw [hX3] at HL3 w0' w1' t2'
              have hrow8 : X3.ownsRow B0 38 2 (.slice qa rn qc) rn (cellsP (qs0 ++ ps.take j2)) := by have := HL3.out.lk.qrow; rw [hrn] at this; exact this
              have hsz8 : B0 ≤ X3.heap.size := HL3.out.lk.le
              have cc8 : (X3.alloc (.cells #[.int .u64 (kk : Int), .int .u64 (vv : Int)] 38)).cell? ⟨T, 1, none⟩ = some (.slice qa rn qc) := (World.cell?_of_block (a := ⟨T, 1, none⟩) (Lib.alloc_old X3 _ _ (Nat.lt_of_lt_of_le HL3.out.lk.lt hsz8))).trans t2'
              have hgr8 : ∀ (gg cap' : Nat) (w1 : World), (X3.alloc (.cells #[.int .u64 (kk : Int), .int .u64 (vv : Int)] 38)).grownBy w1 (Value.slice qa rn qc).ownBlock → w1.ownsRow B0 38 2 (.slice (some ⟨gg, 0, none⟩) (rn + 1) cap') (rn + 1) (cellsP (qs0 ++ ps.take j2) ++ [.int .u64 (kk : Int), .int .u64 (vv : Int)]) → ((Value.slice qa rn qc).ownBlock = some gg ∨ gg = X3.heap.size + 1) → (w1.cell? ⟨T, 1, none⟩ = some (.slice qa rn qc) ∧ w1.frozen? ⟨T, 1, none⟩ = false) ∧ Hid (LkF w T B0 y ab ao np c2' 0 ps Xp (.slice av (m + 1) cv) (.slice (some ⟨gg, 0, none⟩) (rn + 1) cap') (ms ++ [(p : Int)]) ((qs0 ++ ps.take j2) ++ [(kk, vv)]) (w1.setCell ⟨T, 1, none⟩ (.slice (some ⟨gg, 0, none⟩) (rn + 1) cap'))) := fun gg cap' w1 hg ho ha => by
                obtain ⟨f1, f2, f3⟩ := lk_pair HL3.out.lk hrn hg ho
                have hk9 := lk_kept (T := T) (i := 1) (u := .slice (some ⟨gg, 0, none⟩) (rn + 1) cap') hg
                have hle : ∀ k, Xp k → k < X3.heap.size := fun k hk => Nat.lt_of_lt_of_le (HPX.out k hk).1 HL3.out.kept.size
                refine ⟨f1, Lib.hid (HL3.out.go f3 f2 (fun k hk => hk9.block k ⟨hle k hk, (HPX.out k hk).2.1, HL3.out.pq k hk⟩) (fun k hk e => ?_))⟩
                have e2 : gg = k := by simpa [Value.ownBlock] using e
                rcases ha with h | h
                · rw [e2] at h
                  exact HL3.out.pq k hk h
                · have := hle k hk
                  omega
              have hTB : T < B0 := HL3.out.lk.lt
              clear HJ HJ2 t0 t1 w0 w1 t2 t3 y0 y1 x0 x1
              clear hX2
              go_region_law (first
                | (refine step_append_lies _ (by rfl) _ _ 29 (by rfl) B0 38 ii _ 2 16 Try.underlying29 hii hz0 hz1 hz2 rfl (by omega) (.slice qa rn qc) rn _ (by rfl) (hrow8.alloc _) ⟨X3.heap.size, 0, none⟩ 1 1 [.int .u64 (kk : Int), .int .u64 (vv : Int)] (by rfl) (by rfl) (World.news_of_block (cs := #[.int .u64 (kk : Int), .int .u64 (vv : Int)]) (t := 38) (fr := (0, 0)) (heap_alloc_new X3 _)) (by simp [Value.oneCell']) (by omega) (by unfold maxLen; omega) (by omega) (by simp; omega) (X3.heap.size + 1) (by simp) ?_; intro gg cap' w1 hown1 hgrow hat hlt1; obtain ⟨⟨e0', ef⟩, hmm⟩ := hgr8 gg cap' w1 hgrow hown1 hat))
              all_goals
                clear hgr8 hrow8 cc8
                go_wp2_with fail
                go_roundw
                case rel => exact ⟨j2 + 1, _, _, rfl, by have := HLT.out; omega, by go_num, by rw [HTS.out]; exact hmm⟩
                case measure => have := HLT.out; simp only [intOf]; omega
            · have d4 : ¬ (j2 : Int) < (np : Int) := by omega
              obtain ⟨rfl, rfl⟩ := HH.out.2.2.1.body
              have htk : ps.take j2 = ps := List.take_of_length_le (by rw [HNP.out]; omega)
              have HE : Hid (LkP w T B0 Xp (ms ++ ofP [p]) (qs0 ++ ps) (.returned (.tuple #[])) X) := Lib.hid ⟨_, _, rfl, by have := HJ.out.lk; rw [htk] at this; exact this, HJ.out.kept, HJ.out.pk⟩
              clear HJ htk
              go_wp2_with fail
              go_end0
              exact HE.out
        | true =>
          have HUP : Hid (∀ i, i < np → ¬ (hig : Int) ≤ (keyAt ps i : Int)) := Lib.hid fun i hi => by
            have h1 := (HH.out.2.2.2.2.2.2.2.1 rfl).2
            have hb := HH.out.2.2.1.body.1
            have hil : i < ps.length := by rw [HNP.out]; exact hi
            have h2 := HH.out.2.2.1.high ps[i] (by rw [← hb]; exact List.getElem_mem hil)
            rw [keyAt_get hil]
            omega
          have HF0 : Hid (LkF w T B0 y ab ao np c2' 0 ps Xp (.slice av (m + 1) cv) qv (ms ++ [(p : Int)]) (qs0 ++ ps.take 0) V) := Lib.hid ⟨by simpa using HA.out.1.old HVV.out.2.2, HVV.out.1, HVV.out.2.1, HA.out.2.2.2.1 _ rfl, lky_trans HA.out.2.1 (lky_old HVV.out.2.2), fun k hk => (HVV.out.2.2.block k (Nat.lt_of_lt_of_le (HPX.out k hk).1 HA.out.2.1.size)).trans (HPK.out k hk), fun k hk => (HPX.out k hk).2.2.2⟩
          clear y0 y1
          go_loopw [16, 17] (fun i _ wr => ∃ (j : Nat) (X : World) (qw : Value), X = wr ∧ j ≤ np ∧ i = .int .i64 (j : Int) ∧ Hid (LkF w T B0 y ab ao np c2' 0 ps Xp (.slice av (m + 1) cv) qw (ms ++ [(p : Int)]) (qs0 ++ ps.take j) X)) (fun i _ _ => np - (intOf i).toNat)
          case atStart => exact ⟨0, _, _, rfl, Nat.zero_le _, rfl, HF0⟩
          case round =>
            obtain ⟨j2, X, qw, rfl, hj2, rfl, HJ⟩ := hrel
            clear HF0 HVV
            have y0 := HJ.out.leaf.c0
            have y1 := HJ.out.leaf.c1
            by_cases hlt2 : j2 < np
            · have d3 : (0 : Int) ≤ (j2 : Int) := by omega
              have d4 : (j2 : Int) < (np : Int) := by omega
              obtain ⟨x0, x1⟩ := HK0.out X HJ.out.isps j2 hlt2
              obtain ⟨kk, hkk⟩ : ∃ kk, keyAt ps j2 = kk := ⟨_, rfl⟩
              obtain ⟨vv, hvv⟩ : ∃ vv, valAt ps j2 = vv := ⟨_, rfl⟩
              rw [hkk] at x0
              rw [hvv] at x1
              have HKV := Lib.hid (And.intro hkk hvv)
              obtain ⟨xb, hxb⟩ : ∃ xb, X.heap.size = xb := ⟨_, rfl⟩
              obtain ⟨X2, hX2⟩ : ∃ X2, X.alloc (.cells #[.int .u64 (kk : Int), .int .u64 (vv : Int)] 38) = X2 := ⟨_, rfl⟩
              have HJ2 : Hid (LkF w T B0 y ab ao np c2' 0 ps Xp (.slice av (m + 1) cv) qw (ms ++ [(p : Int)]) (qs0 ++ ps.take j2) X2) := Lib.hid (by rw [← hX2]; exact HJ.out.old (fun k hk => (HPX.out k hk).1) ((KeptIn.refl _ X).alloc (fun _ h => h) _))
              have hbx : X2.heap[xb]? = some (.cells #[.int .u64 (kk : Int), .int .u64 (vv : Int)] 38 (0, 0)) := by rw [← hX2, ← hxb]; exact heap_alloc_new X _
              have w0 : X2.cell? ⟨xb, 0, none⟩ = some (.int .u64 (kk : Int)) := (cell_of_row _ _ 0 _ _ _ hbx).trans rfl
              have w1 : X2.cell? ⟨xb, 1, none⟩ = some (.int .u64 (vv : Int)) := (cell_of_row _ _ 1 _ _ _ hbx).trans rfl
              have t0 := HJ2.out.leaf.c0
              have t1 := HJ2.out.leaf.c1
              have t2 := HJ2.out.lk.c1
              have t3 := HJ2.out.lk.c0
              have HLT := Lib.hid hlt2
              have u1 := HUP.out j2 hlt2
              try rw [hkk] at u1
              have HTS : Hid (qs0 ++ ps.take (j2 + 1) = (qs0 ++ ps.take j2) ++ [(kk, vv)]) := Lib.hid (by rw [take_snoc ps j2 (by rw [HNP.out]; exact hlt2), hkk, hvv, List.append_assoc])
              clear hkk hvv hbx
              go_wp2_with fail
              obtain ⟨ii, hii, hz0, hz1, hz2⟩ := info_parts infoPair
              obtain ⟨rn, hrn⟩ : ∃ rn, (qs0 ++ ps.take j2).length = rn := ⟨_, rfl⟩
              have hrn2 : rn ≤ 10000 := by
                obtain ⟨h1, h3⟩ := HQ0L.out
                have h2 : (ps.take j2).length ≤ ps.length := by rw [List.length_take]; omega
                rw [← hrn, List.length_append]
                omega
              obtain ⟨qa, qc, rfl, _⟩ := row_slice HJ2.out.lk.qrow
              rw [hrn] at HJ2 t2
              have HL3 : Hid (LkF w T B0 y ab ao np c2' 0 ps Xp (.slice av (m + 1) cv) (.slice qa rn qc) (ms ++ [(p : Int)]) (qs0 ++ ps.take j2) X2.drew) := Lib.hid (HJ2.out.old (fun k hk => (HPX.out k hk).1) (KeptIn.refl _ X2).drew)
              have w0' : X2.drew.cell? ⟨xb, 0, none⟩ = some (.int .u64 (kk : Int)) := w0
              have w1' : X2.drew.cell? ⟨xb, 1, none⟩ = some (.int .u64 (vv : Int)) := w1
              have t2' : X2.drew.cell? ⟨T, 1, none⟩ = some (.slice qa rn qc) := t2
              obtain ⟨X3, hX3⟩ : ∃ X3, X2.drew = X3 := ⟨_, rfl⟩
              rw [hX3] at HL3 w0' w1' t2'
              have hrow8 : X3.ownsRow B0 38 2 (.slice qa rn qc) rn (cellsP (qs0 ++ ps.take j2)) := by have := HL3.out.lk.qrow; rw [hrn] at this; exact this
              have hsz8 : B0 ≤ X3.heap.size := HL3.out.lk.le
              have cc8 : (X3.alloc (.cells #[.int .u64 (kk : Int), .int .u64 (vv : Int)] 38)).cell? ⟨T, 1, none⟩ = some (.slice qa rn qc) := (World.cell?_of_block (a := ⟨T, 1, none⟩) (Lib.alloc_old X3 _ _ (Nat.lt_of_lt_of_le HL3.out.lk.lt hsz8))).trans t2'
              have hgr8 : ∀ (gg cap' : Nat) (w1 : World), (X3.alloc (.cells #[.int .u64 (kk : Int), .int .u64 (vv : Int)] 38)).grownBy w1 (Value.slice qa rn qc).ownBlock → w1.ownsRow B0 38 2 (.slice (some ⟨gg, 0, none⟩) (rn + 1) cap') (rn + 1) (cellsP (qs0 ++ ps.take j2) ++ [.int .u64 (kk : Int), .int .u64 (vv : Int)]) → ((Value.slice qa rn qc).ownBlock = some gg ∨ gg = X3.heap.size + 1) → (w1.cell? ⟨T, 1, none⟩ = some (.slice qa rn qc) ∧ w1.frozen? ⟨T, 1, none⟩ = false) ∧ Hid (LkF w T B0 y ab ao np c2' 0 ps Xp (.slice av (m + 1) cv) (.slice (some ⟨gg, 0, none⟩) (rn + 1) cap') (ms ++ [(p : Int)]) ((qs0 ++ ps.take j2) ++ [(kk, vv)]) (w1.setCell ⟨T, 1, none⟩ (.slice (some ⟨gg, 0, none⟩) (rn + 1) cap'))) := fun gg cap' w1 hg ho ha => by
                obtain ⟨f1, f2, f3⟩ := lk_pair HL3.out.lk hrn hg ho
                have hk9 := lk_kept (T := T) (i := 1) (u := .slice (some ⟨gg, 0, none⟩) (rn + 1) cap') hg
                have hle : ∀ k, Xp k → k < X3.heap.size := fun k hk => Nat.lt_of_lt_of_le (HPX.out k hk).1 HL3.out.kept.size
                refine ⟨f1, Lib.hid (HL3.out.go f3 f2 (fun k hk => hk9.block k ⟨hle k hk, (HPX.out k hk).2.1, HL3.out.pq k hk⟩) (fun k hk e => ?_))⟩
                have e2 : gg = k := by simpa [Value.ownBlock] using e
                rcases ha with h | h
                · rw [e2] at h
                  exact HL3.out.pq k hk h
                · have := hle k hk
                  omega
              have hTB : T < B0 := HL3.out.lk.lt
              clear HJ HJ2 t0 t1 w0 w1 t2 t3 y0 y1 x0 x1
              clear hX2
              go_region_law (first
                | (refine step_append_lies _ (by rfl) _ _ 29 (by rfl) B0 38 ii _ 2 16 Try.underlying29 hii hz0 hz1 hz2 rfl (by omega) (.slice qa rn qc) rn _ (by rfl) (hrow8.alloc _) ⟨X3.heap.size, 0, none⟩ 1 1 [.int .u64 (kk : Int), .int .u64 (vv : Int)] (by rfl) (by rfl) (World.news_of_block (cs := #[.int .u64 (kk : Int), .int .u64 (vv : Int)]) (t := 38) (fr := (0, 0)) (heap_alloc_new X3 _)) (by simp [Value.oneCell']) (by omega) (by unfold maxLen; omega) (by omega) (by simp; omega) (X3.heap.size + 1) (by simp) ?_; intro gg cap' w1 hown1 hgrow hat hlt1; obtain ⟨⟨e0', ef⟩, hmm⟩ := hgr8 gg cap' w1 hgrow hown1 hat))
              all_goals
                clear hgr8 hrow8 cc8
                go_wp2_with fail
                go_roundw
                case rel => exact ⟨j2 + 1, _, _, rfl, by have := HLT.out; omega, by go_num, by rw [HTS.out]; exact hmm⟩
                case measure => have := HLT.out; simp only [intOf]; omega
            · have d4 : ¬ (j2 : Int) < (np : Int) := by omega
              obtain ⟨rfl, rfl⟩ := HH.out.2.2.1.body
              have htk : ps.take j2 = ps := List.take_of_length_le (by rw [HNP.out]; omega)
              have HE : Hid (LkP w T B0 Xp (ms ++ ofP [p]) (qs0 ++ ps) (.returned (.tuple #[])) X) := Lib.hid ⟨_, _, rfl, by have := HJ.out.lk; rw [htk] at this; exact this, HJ.out.kept, HJ.out.pk⟩
              clear HJ htk
              go_wp2_with fail
              go_end0
              exact HE.out

end Go.Proofs.Ytlnlgapjlekehaa
