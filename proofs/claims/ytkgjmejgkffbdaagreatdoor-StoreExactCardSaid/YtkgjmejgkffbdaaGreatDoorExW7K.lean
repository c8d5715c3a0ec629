import Derived.Test.YtkgjmejgkffbdaaGreatDoorEx7K
import Derived.Test.YtkgjmejgkffbdaaGreatDoorRef7eK
import Derived.Test.YtkgjmejgkffbdaaGreatDoorHeK
import Derived.Test.YtkgjmejgkffbdaaGreatDoorNums
import Derived.Deep.Cut
import Derived.Deep.CutRange
import Derived.Deep.CutBlock
import Derived.Deep.RegionLaw
import Derived.Deep.RegionHeld3
/- StoreExact of layer 7: the walk: it returns true for every input and writes nothing that was there. -/
set_option linter.unusedVariables false
namespace Go.Proofs.YtkgjmejgkffbdaaGreatDoor
open Go.RowKit

attribute [local go_sem] eqTwo

/-- A slice of integers that came in. -/
structure IsInts7 (w : World) (b : Option Addr) (l : List Int) : Prop where
  len : l.length ≤ maxLen
  wf : ∀ x ∈ l, I64 x
  cells : 0 < l.length → ∃ g off, b = some ⟨g, off, none⟩ ∧ g < w.heap.size ∧ ∀ i, i < l.length → w.cell? ⟨g, off + i, none⟩ = some (.int .i64 (l.getD i 0))
theorem IsInts7.here {w W : World} {A : Ad} {b : Option Addr} {l : List Int} (h : IsInts7 w b l) (lo : Lo w A) (hk : KeptIn (· < w.heap.size) w W) : IntsIn A W b l :=
  ⟨h.len, h.wf, fun hp => by
    obtain ⟨g, off, e, hg, hc⟩ := h.cells hp
    exact ⟨g, off, e, Nat.lt_of_lt_of_le hg hk.size, fun ha => Nat.lt_irrefl _ (Nat.lt_of_lt_of_le hg (lo.lo g ha)), fun i hi => (World.cell?_of_block (a := ⟨g, off + i, none⟩) (hk.block g hg)).trans (hc i hi)⟩⟩
theorem IsInts7.old {w W : World} {b : Option Addr} {l : List Int} (h : IsInts7 w b l) (hk : KeptIn (· < w.heap.size) w W) : IsInts7 W b l :=
  ⟨h.len, h.wf, fun hp => by
    obtain ⟨g, off, e, hg, hc⟩ := h.cells hp
    exact ⟨g, off, e, Nat.lt_of_lt_of_le hg hk.size, fun i hi => (World.cell?_of_block (a := ⟨g, off + i, none⟩) (hk.block g hg)).trans (hc i hi)⟩⟩

/-- A slice of deeds that came in. -/
def IsActs7 (w : World) (a : Option Addr) (len : Nat) : Prop :=
  len = 0 ∨ ∃ b off, a = some ⟨b, off, none⟩ ∧ b < w.heap.size ∧ len ≤ maxLen ∧ ∀ i, i < len → ∃ (k x r : Int) (lb : Option Addr) (cap : Nat) (l : List Int), I64 k ∧ I64 x ∧ I64 r ∧ IsInts7 w lb l ∧
    w.cell? ⟨b, off + i * 4, none⟩ = some (.int .i64 k) ∧ w.cell? ⟨b, off + i * 4 + 1, none⟩ = some (.int .i64 x) ∧ w.cell? ⟨b, off + i * 4 + 2, none⟩ = some (.int .i64 r) ∧ w.cell? ⟨b, off + i * 4 + 3, none⟩ = some (.slice lb l.length cap)
theorem IsActs7.len_le {w : World} {a : Option Addr} {len : Nat} (h : IsActs7 w a len) : len ≤ maxLen := by
  rcases h with rfl | ⟨b, off, _, _, h, _⟩
  · exact Nat.zero_le _
  · exact h

/-- The round's deed, in its variable at block x. -/
def BoxA7 (y : Nat) (kd x rt : Int) (lb : Option Addr) (ll cap : Nat) (W : World) : Prop := W.heap[y]? = some (.cells #[.int .i64 kd, .int .i64 x, .int .i64 rt, .slice lb ll cap] 42 (0, 0))
section
variable {y ll cap : Nat} {kd x rt : Int} {lb : Option Addr} {W W' : World}
theorem BoxA7.c0 (h : BoxA7 y kd x rt lb ll cap W) : W.cell? ⟨y, 0, none⟩ = some (.int .i64 kd) := by unfold BoxA7 at h; simp [World.cell?, h]
theorem BoxA7.c1 (h : BoxA7 y kd x rt lb ll cap W) : W.cell? ⟨y, 1, none⟩ = some (.int .i64 x) := by unfold BoxA7 at h; simp [World.cell?, h]
theorem BoxA7.c2 (h : BoxA7 y kd x rt lb ll cap W) : W.cell? ⟨y, 2, none⟩ = some (.int .i64 rt) := by unfold BoxA7 at h; simp [World.cell?, h]
theorem BoxA7.c3 (h : BoxA7 y kd x rt lb ll cap W) : W.cell? ⟨y, 3, none⟩ = some (.slice lb ll cap) := by unfold BoxA7 at h; simp [World.cell?, h]
theorem BoxA7.lt (h : BoxA7 y kd x rt lb ll cap W) : y < W.heap.size := (Array.getElem?_eq_some_iff.1 h).1
theorem BoxA7.old (h : BoxA7 y kd x rt lb ll cap W) (hk : KeptIn (· < W.heap.size) W W') : BoxA7 y kd x rt lb ll cap W' := (hk.block y h.lt).trans h
end

/-- Where a round begins. -/
def At7 (w : World) (A : Ad) (R : R7) (n j : Nat) (W : World) : Prop :=
  ∃ (p : Pw) (S : List (List UInt8)) (h : Hd) (a : Nat) (P : List Pag) (K F : Nat → Bool) (L : Nat → Option Nat) (kk : Nat → Nat), Ex7 w A R n p S h a P K F L kk W ∧ h.gen ≤ j + 1
theorem At7.kept {w W : World} {A : Ad} {R : R7} {n j : Nat} (k : At7 w A R n j W) : KeptIn (· < w.heap.size) w W := by
  obtain ⟨p, S, h, a, P, K, F, L, kk, h1, _⟩ := k
  exact h1.kept
theorem At7.old {w W W' : World} {A : Ad} {R : R7} {n j : Nat} (k : At7 w A R n j W) (hk : KeptIn (· < W.heap.size) W W') : At7 w A R n j W' := by
  obtain ⟨p, S, h, a, P, K, F, L, kk, h1, h2⟩ := k
  exact ⟨p, S, h, a, P, K, F, L, kk, h1.old hk, h2⟩
theorem At7.next {w W : World} {A : Ad} {R : R7} {n j : Nat} (k : At7 w A R n j W) : At7 w A R n (j + 1) W := by
  obtain ⟨p, S, h, a, P, K, F, L, kk, h1, h2⟩ := k
  exact ⟨p, S, h, a, P, K, F, L, kk, h1, by omega⟩

theorem ex7_n (pages : Int) : ∃ n : Nat, 2 ≤ n ∧ n ≤ 12 ∧ wrap64 (2 + wrap64 ((IntKind.u64.wrap pages).tmod 11)) = (n : Int) ∧ 2 + wrap64 ((IntKind.u64.wrap pages).tmod 11) = (n : Int) := by
  obtain ⟨u, hu, hw⟩ := modWalk pages 11 (by decide) (by decide)
  rw [show ((11 : Nat) : Int) = 11 from rfl] at hw
  refine ⟨2 + u, by omega, by omega, ?_, by rw [hw]; omega⟩
  rw [hw]
  unfold wrap64
  omega
theorem ex7_u (n : Nat) (h2 : 2 ≤ n) (h12 : n ≤ 12) : min (max ((n : Int) * 16 + 3) 0) 16384 = ((16 * n + 3 : Nat) : Int) ∧ min ((16 * n + 3) / 16) 512 = n := by
  refine ⟨by omega, by omega⟩

theorem box7_fr {A : Ad} {N : Nat} {p : Pw} {S : List (List UInt8)} {M : Int → Option (List UInt8)} {h : Hd} {a : Nat} {P : List Pag} {W W' : World} {y ll cap : Nat} {kd x rt : Int} {lb : Option Addr} (k : Sv A N p S M h a P W) (hb : BoxA7 y kd x rt lb ll cap W) (f : Fr A W W') : BoxA7 y kd x rt lb ll cap W' :=
  (f.block y ⟨hb.lt, cells_apart k (show W.heap[y]? = _ from hb) (by decide) (by decide) (by decide) (by decide) (by decide)⟩).trans hb
theorem IsInts7.apart7 {w : World} {b : Option Addr} {l : List Int} {R : R7} (h : IsInts7 w b l) (hr : ∀ j, R.has j → w.heap.size ≤ j) : ∀ g off, b = some ⟨g, off, none⟩ → 0 < l.length → ¬ R.has g := fun g off e hp hg => by
  obtain ⟨g', off', e', hlt, _⟩ := h.cells hp
  rw [e] at e'
  simp only [Option.some.injEq, Addr.mk.injEq, and_true] at e'
  obtain ⟨rfl, rfl⟩ := e'
  exact Nat.lt_irrefl _ (Nat.lt_of_lt_of_le hlt (hr g hg))

/-- What Read hands back of a page that isn't free. -/
def RdK7 (W : World) (k : Nat) (e : Ending) (w' : World) : Prop :=
  ∃ (b : Option Addr) (c : Nat), e = .returned (.tuple #[.agg #[.int .i64 0, .slice b 1 c], .int .i64 0]) ∧ IsPs w' b (psK k) ∧ KeptIn (· < W.heap.size) W w'
/-- What it hands back of any page. -/
def RdA7 (W : World) (e : Ending) (w' : World) : Prop :=
  ∃ (lv : Int) (b : Option Addr) (m c : Nat) (er : Int), e = .returned (.tuple #[.agg #[.int .i64 lv, .slice b m c], .int .i64 er]) ∧ KeptIn (· < W.heap.size) W w'
section
variable {w : World} {A : Ad} {R : R7} {n : Nat} {p : Pw} {S : List (List UInt8)} {h : Hd} {a : Nat} {P : List Pag} {K F : Nat → Bool} {L : Nat → Option Nat} {kk : Nat → Nat} {W : World}
theorem rdK7 (k : Ex7 w A R n p S h a P K F L kk W) (hT : Tab W) (q : Nat) (q1 : 1 ≤ q) (q2 : q < n) (h0 : stOf P q ≠ 0) : Calls Tryz.prog 19 #[.pointer (some ⟨A.st, 0, none⟩), .int .i64 (q : Int)] W (RdK7 W (kk q)) := by
  obtain ⟨_, _, _, hlt⟩ := k.nd q q1 q2 h0
  obtain ⟨r1, r2, r3⟩ := bytesK_read (kk q) hlt
  have hP := k.sv.plen.1
  have hq : q < P.length := by rw [k.len]; exact q2
  have hfin : ∀ e w', ReadL W.heap.size W (bytesK (kk q)) (if isN (bytesK (kk q)) then 0 else 3) e w' → RdK7 W (kk q) e w' := fun e w' hR => by
    obtain ⟨b, c, he, h2, h3⟩ := hR
    rw [r1, r2, r3] at he
    rw [r3] at h2
    exact ⟨b, c, he, h2, h3⟩
  have h5 := k.sv.sts q
  by_cases h1 : stOf P q = 1
  · exact (stReadNew A h a P q (bytesK (kk q)) W k.sv.isS hT q1 hq h1 (k.inv.fresh q q1 hq h1) (by rw [bytesK_length]; decide) hP).mono hfin
  · exact (stReadDev q (bytesK (kk q)) W k.sv hT k.sure.1 q1 hq h1 (k.inv.kept q q1 hq (by omega))).mono hfin
theorem rdA7 (k : Ex7 w A R n p S h a P K F L kk W) (hT : Tab W) (q : Nat) (q1 : 1 ≤ q) (q2 : q < n) (h0 : stOf P q = 0) : Calls Tryz.prog 19 #[.pointer (some ⟨A.st, 0, none⟩), .int .i64 (q : Int)] W (RdA7 W) := by
  refine (stReadDev q _ W k.sv hT k.sure.1 q1 (by rw [k.len]; exact q2) (by omega) rfl).mono ?_
  rintro e w' ⟨b, c, rfl, _, h3⟩
  exact ⟨_, _, _, _, _, rfl, h3⟩
end

theorem row_apart7 {R : R7} {n B m cap : Nat} {K F : Nat → Bool} {L : Nat → Option Nat} {h : Hd} {W : World} {c : Option Addr} {xs : List Value} (r : IsR7 R n K F L h W) (hr : W.ownsRow B 3 1 (.slice c m cap) m xs) : ∀ g off, c = some ⟨g, off, none⟩ → 0 < m → ¬ R.has g := fun g off e hp => by
  subst e
  obtain ⟨cur, hc, _⟩ := rowT_cells hr g rfl
  rintro (e | e | e | e)
  · exact rows_ne hc r.hu (by decide) e
  · exact rows_ne hc (show W.heap[R.k]? = _ from r.hk) (by decide) e
  · exact rows_ne hc (show W.heap[R.f]? = _ from r.hf) (by decide) e
  · exact rows_ne hc r.hd (by decide) e
/-- What the loop that picks committed pages has. -/
structure Pk7 (W5 : World) (n : Nat) (K : Nat → Bool) (i : Nat) (v : Value) (zs : List Int) (V : World) : Prop where
  kept : KeptIn (· < W5.heap.size) W5 V
  row : V.ownsRow W5.heap.size 3 1 v zs.length (zs.map encZ)
  len : zs.length ≤ i
  all : ∀ z ∈ zs, ∃ q : Nat, z = (q : Int) ∧ 1 ≤ q ∧ q < n ∧ K q = true
theorem Pk7.drewN {W5 V : World} {n i : Nat} {K : Nat → Bool} {v : Value} {zs : List Int} (k : Pk7 W5 n K i v zs V) (m : Nat) : Pk7 W5 n K i v zs (V.drewN m) :=
  ⟨k.kept.drewN m, rowT_old k.row ((KeptIn.refl _ V).drewN m), k.len, k.all⟩











set_option maxHeartbeats 16000000 in
set_option maxRecDepth 100000 in
theorem exW7 (pages : Int) (a1 : Option Addr) (len1 cap1 : Nat) (w : World) (_ : (Lit.int .i64 pages).wf = true) (w1 : IsActs7 w a1 len1) (hT : Tab w) :
    Calls Tryz.prog 3 #[.int .i64 pages, .slice a1 len1 cap1] w fun e w' => e = .returned (.bool true) ∧ KeptIn (· < w.heap.size) w w' := by
  have l1 := w1.len_le
  have b1 : (len1 : Int) ≤ 9223372036854775807 := by unfold maxLen at l1; omega
  have WA := Lib.hid w1
  have CA := Lib.hid (awake7 w hT)
  have HT := Lib.hid hT
  have HCS := Lib.hid l7slots
  obtain ⟨n, n2, n12, hn, hn'⟩ := ex7_n pages
  have nI2 : (2 : Int) ≤ (n : Int) := by omega
  have nI12 : (n : Int) ≤ 12 := by omega
  have HU := Lib.hid (ex7_u n n2 n12)
  have HN := Lib.hid (And.intro n2 n12)
  clear w1 l1 hT n2 n12
  go_enter Tryz.func3, Tryz.ntmps3
  go_wp2_with (go_at_call 5; refine CA.out.mono ?_; rintro e V1 ⟨rfl, kv⟩)
  have HT1 := Lib.hid (HT.out.kept kv HT.out.lt)
  have HKV := Lib.hid kv
  clear CA kv
  go_wp2_with fail
  refine (begNew V1).mono ?_
  rintro e W1 ⟨rfl, hP1, k1⟩
  have H1 := Lib.hid (And.intro hP1 k1)
  clear hP1 k1
  go_upto_region 5 with fail
  clear hn hn'
  try generalize (IntKind.u64.wrap pages).tmod 11 = y1
  try generalize IntKind.u64.wrap pages = y2
  have hu2 := HU.out
  go_wp2_with fail
  refine (begDev V1 W1 V1.heap.size pw0 _ (16 * n + 3) H1.out.2 H1.out.1 hu2.1).mono ?_
  rintro e W2 hR
  unfold DevS at hR
  obtain ⟨d, s, b, rfl, q1, q2, q3, q4, q5, q6, q7⟩ := hR
  have H2 := Lib.hid (And.intro q1 (And.intro q2 (And.intro q3 (And.intro q4 (And.intro q5 q6)))))
  clear q1 q2 q3 q4 q5 q6 q7 H1 hu2
  go_wp2_with fail
  refine (HCS.out W2).mono ?_
  rintro e W3 ⟨rfl, k3⟩
  have H3 := Lib.hid (And.intro (H2.out.1.kept k3 H2.out.1.ltd H2.out.1.lts H2.out.1.ltb) (And.intro (H2.out.2.1.kept k3 H2.out.2.1.lt) (H2.out.2.2.1.step k3)))
  clear k3
  go_wp2_with fail
  refine (begFor V1 W3 d V1.heap.size s b (16 * n + 3) n pw0 9 3 4 H3.out.2.2 HT1.out H3.out.1 H3.out.2.1 pw0_sure H2.out.2.2.2.1 (Nat.le_refl _) H2.out.2.2.2.2.1 H2.out.2.2.2.2.2 (by decide) HU.out.2 HN.out.1).mono ?_
  rintro e W4 hR
  unfold ForS at hR
  obtain ⟨st, pg, p, rfl, hbg⟩ := hR
  unfold Begun at hbg
  obtain ⟨A, hA⟩ : ∃ A : Ad, A = ⟨d, V1.heap.size, s, b, st, pg⟩ := ⟨_, rfl⟩
  rw [← hA] at hbg
  have hd : d = A.d := by rw [hA]
  have hst : st = A.st := by rw [hA]
  have hmm : V1.heap.size = A.m := by rw [hA]
  subst hst
  subst hd
  have H4 := Lib.hid hbg
  have HMM := Lib.hid hmm
  clear hbg H3 H2 hA hmm
  go_wp2_with fail
  refine (HCS.out W4).mono ?_
  rintro e W5 ⟨rfl, k5⟩
  have CN := r7New n (by have := HN.out.2; omega) ⟨1, 0, 9, 3, 4⟩ W5
  unfold headV at CN
  have HCN := Lib.hid CN
  have HK5 := Lib.hid k5
  clear CN k5
  go_wp2_with fail
  refine HCN.out.mono ?_
  rintro e W6 ⟨R, rfl, r1, r2, r3⟩
  have HJ0 : Hid (At7 V1 A R n 0 W6) := Lib.hid ⟨p, _, _, 0, noP n, fun _ => false, fun _ => false, fun _ => none, fun _ => 0,
    ⟨(H4.out.1.old HK5.out).old r2, H4.out.2.1, r1, H4.out.2.2.1, fun j hj => Nat.le_trans (Nat.le_trans H4.out.2.2.2.size HK5.out.size) (r3 j hj), (H4.out.2.2.2.step HK5.out).step r2, noP_length n, inv_format (16 * n + 3) n _ (by omega) HN.out.1 _,
      (fun q _ _ => by rw [noP_st]; exact ⟨rfl, rfl⟩), fun q _ _ h => absurd (noP_st n q) h⟩, Nat.le_refl _⟩
  clear r1 r2 r3 H4 HK5 HCN HCS HMM HU
  go_wp2_with fail
  go_loopw [10, 11, 12, 13, 14, 15, 16, 17, 18, 19, 20, 21, 22, 23, 24] (fun c _ _ _ _ _ _ _ _ _ _ _ _ _ _ wr => ∃ (j : Nat) (W : World), W = wr ∧ j ≤ len1 ∧ j ≤ 40 ∧ c = .int .i64 j ∧ Hid (At7 V1 A R n j W)) (fun c _ _ _ _ _ _ _ _ _ _ _ _ _ _ _ => 40 - (RowKit.intOf c).toNat)
  case atStart => exact ⟨0, _, rfl, Nat.zero_le _, Nat.zero_le _, rfl, HJ0⟩
  case round =>
    obtain ⟨j, W, rfl, hj, hj1, rfl, HJ⟩ := hrel
    clear HJ0
    have d0 : (0 : Int) ≤ (j : Int) := by omega
    by_cases hlt : j < len1
    · have d1 : (j : Int) < (len1 : Int) := by omega
      by_cases hlt1 : j < 40
      · have d2 : (j : Int) < 40 := by omega
        obtain ⟨b, off, rfl, hb, _, hel⟩ : ∃ b off, a1 = some ⟨b, off, none⟩ ∧ b < w.heap.size ∧ len1 ≤ maxLen ∧ _ := WA.out.resolve_left (by omega)
        obtain ⟨kd, x, rt, lb, cap, l, ik, ix, ir, il, e0, e1, e2, e3⟩ := hel j hlt
        have hkw := HKV.out.step HJ.out.kept
        have g0 := (World.cell?_of_block (hkw.block b hb)).trans e0
        have g1 := (World.cell?_of_block (hkw.block b hb)).trans e1
        have g2 := (World.cell?_of_block (hkw.block b hb)).trans e2
        have g3 := (World.cell?_of_block (hkw.block b hb)).trans e3
        have HI := Lib.hid (And.intro ix (And.intro ir (il.old HKV.out)))
        obtain ⟨ll, hll⟩ : ∃ ll, l.length = ll := ⟨_, rfl⟩
        have llm : (ll : Int) ≤ 9223372036854775807 := by have := il.len; unfold maxLen at this; omega
        have HLL := Lib.hid hll
        rw [hll] at g3
        have hA5 : BoxA7 W.heap.size kd x rt lb ll cap (W.alloc (.cells #[.int .i64 kd, .int .i64 x, .int .i64 rt, .slice lb ll cap] 42)) := heap_alloc_new W _
        have H5 : Hid (At7 V1 A R n j (W.alloc (.cells #[.int .i64 kd, .int .i64 x, .int .i64 rt, .slice lb ll cap] 42)) ∧ BoxA7 W.heap.size kd x rt lb ll cap (W.alloc (.cells #[.int .i64 kd, .int .i64 x, .int .i64 rt, .slice lb ll cap] 42)) ∧ V1.heap.size ≤ W.heap.size) :=
          Lib.hid ⟨HJ.out.old ((KeptIn.refl _ W).alloc (fun _ h => h) _), hA5, HJ.out.kept.size⟩
        clear e0 e1 e2 e3 hel ik ix ir il hA5 HJ hkw hll
        go_upto_region 13 with fail
        clear g0 g1 g2 g3
        generalize W.alloc (.cells #[.int .i64 kd, .int .i64 x, .int .i64 rt, .slice lb ll cap] 42) = W5 at *
        generalize W.heap.size = y at *
        have p0 := H5.out.2.1.c0; have p1 := H5.out.2.1.c1; have p2 := H5.out.2.1.c2; have p3 := H5.out.2.1.c3
        by_cases hbig : (20 : Int) < (ll : Int)
        · go_wp2_with fail
          go_ret
          exact ⟨rfl, HKV.out.step H5.out.1.kept⟩
        have hbig' : ¬ ((ll : Int) > 20) := by omega
        have hll20 : (ll : Int) ≤ 20 := by omega
        clear hbig
        go_upto_block 2 with fail
        go_cut [] from 73 to 250 (fun wx => ∃ W' : World, W' = wx ∧ Hid (At7 V1 A R n (j + 1) W'))
        case first =>
          as_aux_lemma =>
            obtain ⟨p9, S, h, a, P, K, F, L, kk, hE, hgen⟩ := H5.out.1
            have HE := Lib.hid hE; have HG := Lib.hid hgen; have HBX := Lib.hid H5.out.2.1
            clear hE hgen H5
            by_cases k1 : kd = 1
            · subst k1
              as_aux_lemma =>
                obtain ⟨xx, hxx⟩ : ∃ xx, ku x = xx := ⟨_, rfl⟩
                have HXX := Lib.hid (And.intro hxx (show xx < 18446744073709551616 by rw [← hxx]; exact ku_lt x))
                clear hxx
                go_wp2_with fail
                refine (l7node x xx HXX.out.1 W5).mono ?_
                rintro e W6 hR
                unfold NodeS at hR
                obtain ⟨g, rfl, hps, _, k6⟩ := hR
                have hE6 := HE.out.old k6
                have hT6 : Tab W6 := HT1.out.old hE6.kept
                have hb6 := HBX.out.old k6
                have HE6 := Lib.hid hE6
                have HB6 := Lib.hid hb6
                cases hf : freeP P with
                | some q =>
                  have CA : Calls Tryz.prog 11 #[.pointer (some ⟨A.st, 0, none⟩), .agg #[.int .i64 0, .slice (some ⟨g, 0, none⟩) 1 1]] W6 _ := stAddOk hE6.sv hT6 0 (some ⟨g, 0, none⟩) 1 (psK xx) hps (psK_good _) q hf
                  have HCA := Lib.hid CA
                  have HF := Lib.hid hf
                  clear CA hf hps hE6 hT6 hb6 k6 p0 p1 p2 p3
                  go_wp2_with fail
                  refine HCA.out.mono ?_
                  rintro e W7 ⟨rfl, sv7, f7⟩
                  have hb7 := box7_fr HE6.out.sv HB6.out f7
                  have p1 := hb7.c1
                  have HM := Lib.hid (And.intro sv7 f7)
                  clear sv7 f7 hb7 HCA
                  go_wp2_with fail
                  refine (l7node x xx HXX.out.1 W7).mono ?_
                  rintro e W8 hR
                  unfold NodeS at hR
                  obtain ⟨g2, rfl, hps2, _, k8⟩ := hR
                  have f8 := HM.out.2.trans' (Fr.of_old k8)
                  obtain ⟨q1, q2, q3, q4, q5⟩ := HE6.out.free HF.out
                  have HCR := Lib.hid (r7AddOk (HE6.out.mid f8) (by have := HN.out.2; omega) g2 xx hps2 q q1 q2 q3 q4 q5)
                  have HS8 := Lib.hid (And.intro (HM.out.1.old k8) (And.intro f8 hps2))
                  clear hps2 k8 f8 q1 q2 q3 q4 q5 HM p1
                  go_wp2_with fail
                  refine HCR.out.mono ?_
                  rintro e W9 ⟨rfl, r9, f9⟩
                  have HX : Hid (At7 V1 A R n (j + 1) W9) := Lib.hid ⟨_, _, _, _, _, _, _, _, _, HE6.out.add HF.out HXX.out.2 HS8.out.1 HS8.out.2.1 HS8.out.2.2 r9 f9, by have := HG.out; omega⟩
                  clear r9 f9 HS8 HCR HE6 HB6 HE HG HBX
                  go_wp2_with fail
                  go_meet
                  case rel => exact ⟨_, rfl, HX⟩
                | none =>
                  have CA : Calls Tryz.prog 11 #[.pointer (some ⟨A.st, 0, none⟩), .agg #[.int .i64 0, .slice (some ⟨g, 0, none⟩) 1 1]] W6 _ := stAddFull hE6.sv hT6 0 (some ⟨g, 0, none⟩) 1 (psK xx) hps (psK_good _) hf
                  have HCA := Lib.hid CA
                  have HF := Lib.hid hf
                  clear CA hf hps hE6 hT6 hb6 k6 p0 p1 p2 p3
                  go_wp2_with fail
                  refine HCA.out.mono ?_
                  rintro e W7 ⟨rfl, k7⟩
                  have HE7 := Lib.hid (HE6.out.old k7)
                  have p1 := (HB6.out.old k7).c1
                  clear k7 HCA HE6 HB6
                  go_wp2_with fail
                  refine (l7node x xx HXX.out.1 W7).mono ?_
                  rintro e W8 hR
                  unfold NodeS at hR
                  obtain ⟨g2, rfl, hps2, _, k8⟩ := hR
                  have hE8 := HE7.out.old k8
                  have HE8 := Lib.hid hE8
                  have HCR := Lib.hid (r7AddFull hE8.r7 (by have := HN.out.2; omega) (by have := HN.out.1; omega) g2 xx hps2 (hE8.full HF.out))
                  clear hps2 k8 hE8 HE7 p1
                  go_wp2_with fail
                  refine HCR.out.mono ?_
                  rintro e W9 ⟨rfl, k9⟩
                  have HX : Hid (At7 V1 A R n (j + 1) W9) := Lib.hid ⟨_, _, _, _, _, _, _, _, _, HE8.out.old k9, by have := HG.out; omega⟩
                  clear k9 HE8 HCR HE HG HBX
                  go_wp2_with fail
                  go_meet
                  case rel => exact ⟨_, rfl, HX⟩
            by_cases k2 : kd = 2
            · subst k2
              as_aux_lemma =>
                obtain ⟨xx, hxx⟩ : ∃ xx, ku x = xx := ⟨_, rfl⟩
                have HXX := Lib.hid (And.intro hxx (show xx < 18446744073709551616 by rw [← hxx]; exact ku_lt x))
                clear hxx
                go_wp2_with fail
                refine (l7node x xx HXX.out.1 W5).mono ?_
                rintro e W6 hR
                unfold NodeS at hR
                obtain ⟨g, rfl, hps, _, k6⟩ := hR
                have hE6 := HE.out.old k6
                have hT6 : Tab W6 := HT1.out.old hE6.kept
                have hb6 := HBX.out.old k6
                have HE6 := Lib.hid hE6
                have HB6 := Lib.hid hb6
                cases hf : freeP P with
                | some q =>
                  have CA : Calls Tryz.prog 11 #[.pointer (some ⟨A.st, 0, none⟩), .agg #[.int .i64 0, .slice (some ⟨g, 0, none⟩) 1 1]] W6 _ := stAddOk hE6.sv hT6 0 (some ⟨g, 0, none⟩) 1 (psK xx) hps (psK_good _) q hf
                  have HCA := Lib.hid CA
                  have HF := Lib.hid hf
                  clear CA hf hps hE6 hT6 hb6 k6 p0 p1 p2 p3
                  go_wp2_with fail
                  refine HCA.out.mono ?_
                  rintro e W7 ⟨rfl, sv7, f7⟩
                  have hb7 := box7_fr HE6.out.sv HB6.out f7
                  have p1 := hb7.c1
                  have HM := Lib.hid (And.intro sv7 f7)
                  clear sv7 f7 hb7 HCA
                  go_wp2_with fail
                  refine (l7node x xx HXX.out.1 W7).mono ?_
                  rintro e W8 hR
                  unfold NodeS at hR
                  obtain ⟨g2, rfl, hps2, _, k8⟩ := hR
                  have f8 := HM.out.2.trans' (Fr.of_old k8)
                  obtain ⟨q1, q2, q3, q4, q5⟩ := HE6.out.free HF.out
                  have HCR := Lib.hid (r7AddOk (HE6.out.mid f8) (by have := HN.out.2; omega) g2 xx hps2 q q1 q2 q3 q4 q5)
                  have HS8 := Lib.hid (And.intro (HM.out.1.old k8) (And.intro f8 hps2))
                  clear hps2 k8 f8 q1 q2 q3 q4 q5 HM p1
                  go_wp2_with fail
                  refine HCR.out.mono ?_
                  rintro e W9 ⟨rfl, r9, f9⟩
                  have HX : Hid (At7 V1 A R n (j + 1) W9) := Lib.hid ⟨_, _, _, _, _, _, _, _, _, HE6.out.add HF.out HXX.out.2 HS8.out.1 HS8.out.2.1 HS8.out.2.2 r9 f9, by have := HG.out; omega⟩
                  clear r9 f9 HS8 HCR HE6 HB6 HE HG HBX
                  go_wp2_with fail
                  go_meet
                  case rel => exact ⟨_, rfl, HX⟩
                | none =>
                  have CA : Calls Tryz.prog 11 #[.pointer (some ⟨A.st, 0, none⟩), .agg #[.int .i64 0, .slice (some ⟨g, 0, none⟩) 1 1]] W6 _ := stAddFull hE6.sv hT6 0 (some ⟨g, 0, none⟩) 1 (psK xx) hps (psK_good _) hf
                  have HCA := Lib.hid CA
                  have HF := Lib.hid hf
                  clear CA hf hps hE6 hT6 hb6 k6 p0 p1 p2 p3
                  go_wp2_with fail
                  refine HCA.out.mono ?_
                  rintro e W7 ⟨rfl, k7⟩
                  have HE7 := Lib.hid (HE6.out.old k7)
                  have p1 := (HB6.out.old k7).c1
                  clear k7 HCA HE6 HB6
                  go_wp2_with fail
                  refine (l7node x xx HXX.out.1 W7).mono ?_
                  rintro e W8 hR
                  unfold NodeS at hR
                  obtain ⟨g2, rfl, hps2, _, k8⟩ := hR
                  have hE8 := HE7.out.old k8
                  have HE8 := Lib.hid hE8
                  have HCR := Lib.hid (r7AddFull hE8.r7 (by have := HN.out.2; omega) (by have := HN.out.1; omega) g2 xx hps2 (hE8.full HF.out))
                  clear hps2 k8 hE8 HE7 p1
                  go_wp2_with fail
                  refine HCR.out.mono ?_
                  rintro e W9 ⟨rfl, k9⟩
                  have HX : Hid (At7 V1 A R n (j + 1) W9) := Lib.hid ⟨_, _, _, _, _, _, _, _, _, HE8.out.old k9, by have := HG.out; omega⟩
                  clear k9 HE8 HCR HE HG HBX
                  go_wp2_with fail
                  go_meet
                  case rel => exact ⟨_, rfl, HX⟩
            by_cases k3 : kd = 3
            · subst k3
              as_aux_lemma =>
                have hi := HI.out.2.2.here HE.out.lo HE.out.kept
                have CS := stSweep HE.out.sv lb cap l hi
                rw [HLL.out] at CS
                have HCS2 := Lib.hid CS
                have HIN := Lib.hid hi
                clear CS hi p0 p1 p2
                go_wp2_with fail
                refine HCS2.out.mono ?_
                rintro e W6 ⟨rfl, sv6, f6⟩
                have p4 := (box7_fr HE.out.sv HBX.out f6).c3
                have CR := r7Sweep (A := A) (HE.out.mid f6) (by have := HN.out.1; omega) (by have := HN.out.2; omega) lb cap l (HIN.out.fr f6) (HI.out.2.2.apart7 HE.out.rlo)
                rw [HLL.out] at CR
                have HCR := Lib.hid CR
                have HM := Lib.hid (And.intro sv6 f6)
                clear CR sv6 f6 HCS2 p3
                go_wp2_with fail
                refine HCR.out.mono ?_
                rintro e W7 ⟨rfl, r7, f7⟩
                have HX : Hid (At7 V1 A R n (j + 1) W7) := Lib.hid ⟨_, _, _, _, _, _, _, _, _, HE.out.sweep l HM.out.1 HM.out.2 r7 f7, by have := HG.out; omega⟩
                clear r7 f7 HM HCR HIN p4 HE HG HBX
                go_wp2_with fail
                go_meet
                case rel => exact ⟨_, rfl, HX⟩
            by_cases k4 : kd = 4
            · subst k4
              as_aux_lemma =>
                have hi := HI.out.2.2.here HE.out.lo HE.out.kept
                have CN := r7Next (A := A) HE.out.r7 (by have := HN.out.2; omega) (by have := HG.out; omega) rt lb cap l hi
                have hmay : may7 h n K F rt l = mayC h P rt l := by
                  unfold may7 mayC
                  rw [show used7 n K F = usedB P from funext fun x => (HE.out.used x).symm]
                rw [hmay] at CN
                obtain ⟨mc, hmc⟩ : ∃ mc, mayC h P rt l = mc := ⟨_, rfl⟩
                obtain ⟨⟨G, r0, s0, f0, c0⟩, hh⟩ : ∃ h', nextH h rt = h' := ⟨_, rfl⟩
                rw [hmc, hh, HLL.out] at CN
                unfold headV at CN
                simp only at CN
                have HCN := Lib.hid CN
                have HMC := Lib.hid (And.intro hmc hh)
                clear CN hi hmay hmc hh p0
                go_wp2_with fail
                refine HCN.out.mono ?_
                rintro e W6 ⟨rfl, k6⟩
                have hk6 : KeptIn (· < W5.heap.size) W5 (W6.alloc (.cells #[.int .u64 (G : Int), .int .i64 r0, .int .i64 s0, .int .i64 f0, .int .i64 c0] 39)) := k6.step ((KeptIn.refl _ W6).alloc (fun _ h => h) _)
                have hbh := BoxH.new W6 ⟨G, r0, s0, f0, c0⟩
                have HX6 := Lib.hid (And.intro hk6 hbh)
                clear hk6 hbh k6 HCN
                go_upto_region 27 with fail
                generalize W6.alloc (.cells #[.int .u64 (G : Int), .int .i64 r0, .int .i64 s0, .int .i64 f0, .int .i64 c0] 39) = X6 at *
                generalize W6.heap.size = z at *
                have hE6 := HE.out.old HX6.out.1
                have hb6 := HBX.out.old HX6.out.1
                have hi6 := HI.out.2.2.here hE6.lo hE6.kept
                have hT6 : Tab X6 := HT1.out.old hE6.kept
                have q2 := hb6.c2; have q3 := hb6.c3
                clear p1 p2 p3
                cases mc with
                | false =>
                  have CC := stCommitBad hE6.sv hT6 rt lb cap l hi6 HMC.out.1
                  rw [HLL.out] at CC
                  have HCC := Lib.hid CC
                  have HE6 := Lib.hid hE6
                  clear CC hE6 hb6 hi6 hT6 HX6
                  go_wp2_with fail
                  refine HCC.out.mono ?_
                  rintro e W7 ⟨rfl, k7⟩
                  have HX : Hid (At7 V1 A R n (j + 1) W7) := Lib.hid ⟨_, _, _, _, _, _, _, _, _, HE6.out.old k7, by have := HG.out; omega⟩
                  clear k7 HCC HE6 q2 q3 HE HG HBX
                  go_wp2_with fail
                  go_meet
                  case rel => exact ⟨_, rfl, HX⟩
                | true =>
                  have CC := stCommitOk hE6.sv hT6 rt lb cap l hi6 (by rw [HLL.out]; omega) HMC.out.1
                  rw [HLL.out] at CC
                  have HCC := Lib.hid CC
                  have HE6 := Lib.hid hE6
                  have HB6 := Lib.hid (And.intro hb6 (And.intro HX6.out.2 hi6))
                  clear CC hE6 hb6 hi6 hT6 HX6
                  go_wp2_with fail
                  refine HCC.out.mono ?_
                  rintro e W7 hR
                  obtain ⟨rfl, p1, S1, a7, sv7, f7, hfin⟩ := HE6.out.commit HMC.out.1 hR
                  have hb7 := box7_fr HE6.out.sv HB6.out.1 f7
                  have hh7 : BoxH z ⟨G, r0, s0, f0, c0⟩ W7 := (f7.block z ⟨HB6.out.2.1.lt, cells_apart HE6.out.sv (show X6.heap[z]? = _ from HB6.out.2.1) (by decide) (by decide) (by decide) (by decide) (by decide)⟩).trans HB6.out.2.1
                  have q3 := hb7.c3
                  have y0 := hh7.c0; have y1 := hh7.c1; have y2 := hh7.c2; have y3 := hh7.c3; have y4 := hh7.c4
                  simp only at y0 y1 y2 y3 y4
                  have CR := r7Commit (A := A) (HE6.out.mid f7) (by have := HN.out.1; omega) (by have := HN.out.2; omega) ⟨G, r0, s0, f0, c0⟩ lb cap l (HB6.out.2.2.fr f7) (HI.out.2.2.apart7 HE6.out.rlo)
                  rw [HLL.out] at CR
                  unfold headV at CR
                  simp only at CR
                  have HCR := Lib.hid CR
                  have HF := Lib.hid hfin
                  clear CR hfin sv7 f7 hb7 hh7 hR HCC q2
                  go_wp2_with fail
                  refine HCR.out.mono ?_
                  rintro e W8 ⟨rfl, r8, f8⟩
                  have hg8 : G ≤ j + 1 + 1 := by
                    have h9 := congrArg Hd.gen HMC.out.2
                    have h8 := HG.out
                    simp only [nextH] at h9
                    omega
                  rw [← HMC.out.2] at r8
                  have HX : Hid (At7 V1 A R n (j + 1) W8) := Lib.hid ⟨_, _, _, _, _, _, _, _, _, HF.out W7 W8 (.refl _ _) r8 f8, by rw [HMC.out.2]; exact hg8⟩
                  clear r8 f8 hg8 HCR HF HE6 HB6 HE HG HBX
                  go_wp2_with fail
                  go_meet
                  case rel => exact ⟨_, rfl, HX⟩
            by_cases k5 : kd = 5
            · subst k5
              as_aux_lemma =>
                by_cases hx1 : x < 1
                · as_aux_lemma =>
                    have hout : holdsB P.length x = false := by
                      rw [HE.out.len]
                      unfold holdsB
                      simp only [Bool.and_eq_false_iff, decide_eq_false_iff_not]
                      omega
                    have CR := stReadOut A h a P x W5 HE.out.sv.isS hout
                    unfold NoL leafV at CR
                    have HCR := Lib.hid CR
                    clear CR hout p0 p2 p3
                    go_wp2_with fail
                    refine HCR.out.mono ?_
                    rintro e W6 ⟨rfl, k6⟩
                    have hk6 : KeptIn (· < W5.heap.size) W5 (W6.alloc (.cells #[.int .i64 0, .slice none 0 0] 47)) := k6.step ((KeptIn.refl _ W6).alloc (fun _ h => h) _)
                    have HX : Hid (At7 V1 A R n (j + 1) (W6.alloc (.cells #[.int .i64 0, .slice none 0 0] 47))) := Lib.hid ⟨_, _, _, _, _, _, _, _, _, HE.out.old hk6, by have := HG.out; omega⟩
                    have r1 := (HBX.out.old hk6).c1
                    clear hk6 k6 HCR HE HG HBX p1
                    go_upto_region 34 with fail
                    generalize W6.alloc (.cells #[.int .i64 0, .slice none 0 0] 47) = X6 at *
                    go_wp2_with fail
                    go_meet
                    case rel => exact ⟨_, rfl, HX⟩
                by_cases hx2 : (n : Int) ≤ x
                · as_aux_lemma =>
                    have hout : holdsB P.length x = false := by
                      rw [HE.out.len]
                      unfold holdsB
                      simp only [Bool.and_eq_false_iff, decide_eq_false_iff_not]
                      omega
                    have CR := stReadOut A h a P x W5 HE.out.sv.isS hout
                    unfold NoL leafV at CR
                    have HCR := Lib.hid CR
                    clear CR hout p0 p2 p3
                    go_wp2_with fail
                    refine HCR.out.mono ?_
                    rintro e W6 ⟨rfl, k6⟩
                    have hk6 : KeptIn (· < W5.heap.size) W5 (W6.alloc (.cells #[.int .i64 0, .slice none 0 0] 47)) := k6.step ((KeptIn.refl _ W6).alloc (fun _ h => h) _)
                    have HX : Hid (At7 V1 A R n (j + 1) (W6.alloc (.cells #[.int .i64 0, .slice none 0 0] 47))) := Lib.hid ⟨_, _, _, _, _, _, _, _, _, HE.out.old hk6, by have := HG.out; omega⟩
                    have r1 := (HBX.out.old hk6).c1
                    clear hk6 k6 HCR HE HG HBX p1
                    go_upto_region 34 with fail
                    generalize W6.alloc (.cells #[.int .i64 0, .slice none 0 0] 47) = X6 at *
                    go_wp2_with fail
                    go_meet
                    case rel => exact ⟨_, rfl, HX⟩
                obtain ⟨q, rfl⟩ : ∃ q : Nat, x = (q : Int) := ⟨x.toNat, by omega⟩
                have q1 : 1 ≤ q := by omega
                have q2 : q < n := by omega
                have x0 : (0 : Int) ≤ (q : Int) := by omega
                have x1 : (q : Int) < (n : Int) := by omega
                have g1 : decide ((q : Int) < 1) = false := decide_eq_false hx1
                have g2 : decide ((n : Int) ≤ (q : Int)) = false := decide_eq_false hx2
                have g3 : decide (q < 1) = false := decide_eq_false (by omega)
                have g4 : decide (n ≤ q) = false := decide_eq_false (by omega)
                obtain ⟨s1, s2⟩ := HE.out.st q q1 q2
                have h5 := HE.out.sv.sts q
                rcases (show stOf P q = 0 ∨ stOf P q = 1 ∨ stOf P q = 2 by omega) with e9 | e9 | e9
                · rw [e9] at s1 s2
                  have hFq : F q = false := s1
                  have hKq : K q = false := s2
                  have HCR := Lib.hid (rdA7 HE.out (HT1.out.old HE.out.kept) q q1 q2 e9)
                  have HFK := Lib.hid (And.intro hFq (And.intro hKq q2))
                  clear s1 s2 h5 e9 hFq hKq p0 p2 p3 q1 q2
                  as_aux_lemma =>
                    go_wp2_with fail
                    refine HCR.out.mono ?_
                    rintro e W6 hR
                    unfold RdA7 at hR
                    obtain ⟨lv, ba, mm, ca, er, rfl, k6⟩ := hR
                    have hk6 : KeptIn (· < W5.heap.size) W5 (W6.alloc (.cells #[.int .i64 lv, .slice ba mm ca] 47)) := k6.step ((KeptIn.refl _ W6).alloc (fun _ h => h) _)
                    have H6 := Lib.hid hk6
                    clear hk6 k6 HCR p1
                    go_upto_region 34 with fail
                    generalize W6.alloc (.cells #[.int .i64 lv, .slice ba mm ca] 47) = X6 at *
                    have hE6 := HE.out.old H6.out
                    have q3 := (HBX.out.old H6.out).c1
                    have c1 := hE6.r7.c1; have c2 := hE6.r7.c2
                    have e2 := hE6.r7.af q HFK.out.2.2; have e3 := hE6.r7.ak q HFK.out.2.2
                    rw [HFK.out.1] at e2
                    rw [HFK.out.2.1] at e3
                    have HX0 : Hid (∀ m, At7 V1 A R n (j + 1) (X6.drewN m)) := Lib.hid fun m => ⟨_, _, _, _, _, _, _, _, _, hE6.old ((KeptIn.refl _ X6).drewN m), by have := HG.out; omega⟩
                    clear hE6 HFK HE HG HBX H6
                    go_wp2_with fail
                    go_quiet (fail)
                    have HX := Lib.hid (HX0.out nq)
                    generalize X6.drewN nq = X7 at *
                    clear HX0
                    go_wp2_with fail
                    go_meet
                    case rel => exact ⟨_, rfl, HX⟩
                · rw [e9] at s1 s2
                  have hFq : F q = true := s1
                  have h0 : stOf P q ≠ 0 := by omega
                  clear s1 s2 h5 e9
                  as_aux_lemma =>
                    have HCR := Lib.hid (rdK7 HE.out (HT1.out.old HE.out.kept) q q1 q2 h0)
                    obtain ⟨gn, hL, hpn, _⟩ := HE.out.nd q q1 q2 h0
                    obtain ⟨kq, hkq⟩ : ∃ kq, kk q = kq := ⟨_, rfl⟩
                    rw [hkq] at HCR hpn
                    have HP := Lib.hid (And.intro hL hpn)
                    clear hL hpn hkq h0 p0 p2 p3
                    go_wp2_with fail
                    refine HCR.out.mono ?_
                    rintro e W6 hR
                    unfold RdK7 at hR
                    obtain ⟨ba, ca, rfl, hps, k6⟩ := hR
                    have hk6 : KeptIn (· < W5.heap.size) W5 (W6.alloc (.cells #[.int .i64 0, .slice ba 1 ca] 47)) := k6.step ((KeptIn.refl _ W6).alloc (fun _ h => h) _)
                    have hbl := BoxL.new W6 0 ba 1 ca
                    have hps6 : IsPs (W6.alloc (.cells #[.int .i64 0, .slice ba 1 ca] 47)) ba (psK kq) := hps.old ((KeptIn.refl _ W6).alloc (fun _ h => h) _)
                    have H6 := Lib.hid (And.intro hk6 (And.intro hbl hps6))
                    clear hk6 hbl hps6 hps k6 HCR p1
                    go_upto_region 34 with fail
                    generalize W6.alloc (.cells #[.int .i64 0, .slice ba 1 ca] 47) = X6 at *
                    generalize W6.heap.size = z at *
                    have hE6 := HE.out.old H6.out.1
                    have q3 := (HBX.out.old H6.out.1).c1
                    have c1 := hE6.r7.c1; have c2 := hE6.r7.c2; have c3 := hE6.r7.c3
                    have e2 := hE6.r7.af q q2; have e3 := hE6.r7.ak q q2
                    obtain ⟨n0, n1⟩ := hE6.r7.ad q q2
                    rw [HP.out.1] at n1
                    unfold nodV at n1
                    have b0 := H6.out.2.1.c0; have b1 := H6.out.2.1.c1
                    have CS : ∀ V, KeptIn (· < X6.heap.size) X6 V → Calls Tryz.prog 20 #[.agg #[.int .i64 0, .slice ba 1 ca], .agg #[.int .i64 0, .slice (some ⟨gn, 0, none⟩) 1 1]] V fun e w' => e = .returned (.bool true) ∧ KeptIn (· < X6.heap.size) X6 w' := fun V hV => by
                      refine (r5Same 0 0 ba (some ⟨gn, 0, none⟩) ca 1 (psK kq) (psK kq) V (H6.out.2.2.old hV) ((HP.out.2.old H6.out.1).old hV)).mono ?_
                      rintro e w' ⟨rfl, hk⟩
                      exact ⟨by simp, hV.step hk⟩
                    have hall : ∀ V, KeptIn (· < X6.heap.size) X6 V → V.cell? ⟨z, 0, none⟩ = some (.int .i64 0) ∧ V.cell? ⟨z, 1, none⟩ = some (.slice ba 1 ca) ∧ V.cell? ⟨R.u, 3, none⟩ = some (.slice (some ⟨R.d, 0, none⟩) n n) ∧ V.cell? ⟨y, 1, none⟩ = some (.int .i64 (q : Int)) ∧ V.cell? ⟨R.d, q * 2, none⟩ = some (.int .i64 0) ∧ V.cell? ⟨R.d, q * 2 + 1, none⟩ = some (.slice (some ⟨gn, 0, none⟩) 1 1) := fun V hV => by
                      have hE7 := hE6.old hV
                      obtain ⟨n0, n1⟩ := hE7.r7.ad q q2
                      rw [HP.out.1] at n1
                      have hb := H6.out.2.1.kept hV H6.out.2.1.lt
                      exact ⟨hb.c0, hb.c1, hE7.r7.c3, ((HBX.out.old H6.out.1).old hV).c1, n0, n1⟩
                    have HE6 := Lib.hid hE6; have HCS2 := Lib.hid CS; have HALL := Lib.hid hall
                    rw [hFq] at e2
                    clear hE6 CS hall
                    go_wp2_with fail
                    go_quiet (fail)
                    have hk := (KeptIn.refl (· < X6.heap.size) X6).drewN nq
                    have hall2 := HALL.out _ hk
                    obtain ⟨X7, hX7⟩ : ∃ X7, X6.drewN nq = X7 := ⟨_, rfl⟩
                    rw [hX7] at hk hall2 ⊢
                    have HK7 := Lib.hid hk
                    obtain ⟨b0, b1, c3, q3, n0, n1⟩ := hall2
                    clear hX7 hk
                    go_upto_region 38 with fail
                    go_region_held3 (fun w' => w'.cell? ⟨z, 0, none⟩ = some (.int .i64 0) ∧ w'.cell? ⟨z, 1, none⟩ = some (.slice ba 1 ca) ∧ w'.cell? ⟨R.u, 3, none⟩ = some (.slice (some ⟨R.d, 0, none⟩) n n) ∧ w'.cell? ⟨y, 1, none⟩ = some (.int .i64 (q : Int)) ∧ w'.cell? ⟨R.d, q * 2, none⟩ = some (.int .i64 0) ∧ w'.cell? ⟨R.d, q * 2 + 1, none⟩ = some (.slice (some ⟨gn, 0, none⟩) 1 1))
                      (first | exact ⟨b0, b1, c3, q3, n0, n1⟩ | exact HALL.out _ k8 | exact HALL.out _ k8.drew)
                      (first | (go_at_call 20; refine (HCS2.out _ (by first | exact HK7.out | exact HK7.out.drew)).mono ?_; rintro e V8 ⟨rfl, k8⟩))
                    have HX : Hid (At7 V1 A R n (j + 1) V8) := Lib.hid ⟨_, _, _, _, _, _, _, _, _, HE6.out.old k8, by have := HG.out; omega⟩
                    clear k8 HE6 HALL HCS2 HK7 HE HG HBX HP H6
                    go_wp2_with fail
                    go_meet
                    case rel => exact ⟨_, rfl, HX⟩
                · rw [e9] at s1 s2
                  have hFq : F q = false := s1
                  have hKq : K q = true := s2
                  have h0 : stOf P q ≠ 0 := by omega
                  clear s1 s2 h5 e9
                  as_aux_lemma =>
                    have HCR := Lib.hid (rdK7 HE.out (HT1.out.old HE.out.kept) q q1 q2 h0)
                    obtain ⟨gn, hL, hpn, _⟩ := HE.out.nd q q1 q2 h0
                    obtain ⟨kq, hkq⟩ : ∃ kq, kk q = kq := ⟨_, rfl⟩
                    rw [hkq] at HCR hpn
                    have HP := Lib.hid (And.intro hL hpn)
                    clear hL hpn hkq h0 p0 p2 p3
                    go_wp2_with fail
                    refine HCR.out.mono ?_
                    rintro e W6 hR
                    unfold RdK7 at hR
                    obtain ⟨ba, ca, rfl, hps, k6⟩ := hR
                    have hk6 : KeptIn (· < W5.heap.size) W5 (W6.alloc (.cells #[.int .i64 0, .slice ba 1 ca] 47)) := k6.step ((KeptIn.refl _ W6).alloc (fun _ h => h) _)
                    have hbl := BoxL.new W6 0 ba 1 ca
                    have hps6 : IsPs (W6.alloc (.cells #[.int .i64 0, .slice ba 1 ca] 47)) ba (psK kq) := hps.old ((KeptIn.refl _ W6).alloc (fun _ h => h) _)
                    have H6 := Lib.hid (And.intro hk6 (And.intro hbl hps6))
                    clear hk6 hbl hps6 hps k6 HCR p1
                    go_upto_region 34 with fail
                    generalize W6.alloc (.cells #[.int .i64 0, .slice ba 1 ca] 47) = X6 at *
                    generalize W6.heap.size = z at *
                    have hE6 := HE.out.old H6.out.1
                    have q3 := (HBX.out.old H6.out.1).c1
                    have c1 := hE6.r7.c1; have c2 := hE6.r7.c2; have c3 := hE6.r7.c3
                    have e2 := hE6.r7.af q q2; have e3 := hE6.r7.ak q q2
                    obtain ⟨n0, n1⟩ := hE6.r7.ad q q2
                    rw [HP.out.1] at n1
                    unfold nodV at n1
                    have b0 := H6.out.2.1.c0; have b1 := H6.out.2.1.c1
                    have CS : ∀ V, KeptIn (· < X6.heap.size) X6 V → Calls Tryz.prog 20 #[.agg #[.int .i64 0, .slice ba 1 ca], .agg #[.int .i64 0, .slice (some ⟨gn, 0, none⟩) 1 1]] V fun e w' => e = .returned (.bool true) ∧ KeptIn (· < X6.heap.size) X6 w' := fun V hV => by
                      refine (r5Same 0 0 ba (some ⟨gn, 0, none⟩) ca 1 (psK kq) (psK kq) V (H6.out.2.2.old hV) ((HP.out.2.old H6.out.1).old hV)).mono ?_
                      rintro e w' ⟨rfl, hk⟩
                      exact ⟨by simp, hV.step hk⟩
                    have hall : ∀ V, KeptIn (· < X6.heap.size) X6 V → V.cell? ⟨z, 0, none⟩ = some (.int .i64 0) ∧ V.cell? ⟨z, 1, none⟩ = some (.slice ba 1 ca) ∧ V.cell? ⟨R.u, 3, none⟩ = some (.slice (some ⟨R.d, 0, none⟩) n n) ∧ V.cell? ⟨y, 1, none⟩ = some (.int .i64 (q : Int)) ∧ V.cell? ⟨R.d, q * 2, none⟩ = some (.int .i64 0) ∧ V.cell? ⟨R.d, q * 2 + 1, none⟩ = some (.slice (some ⟨gn, 0, none⟩) 1 1) := fun V hV => by
                      have hE7 := hE6.old hV
                      obtain ⟨n0, n1⟩ := hE7.r7.ad q q2
                      rw [HP.out.1] at n1
                      have hb := H6.out.2.1.kept hV H6.out.2.1.lt
                      exact ⟨hb.c0, hb.c1, hE7.r7.c3, ((HBX.out.old H6.out.1).old hV).c1, n0, n1⟩
                    have HE6 := Lib.hid hE6; have HCS2 := Lib.hid CS; have HALL := Lib.hid hall
                    rw [hFq] at e2
                    clear hE6 CS hall
                    rw [hKq] at e3
                    go_wp2_with fail
                    go_quiet (fail)
                    have hk := (KeptIn.refl (· < X6.heap.size) X6).drewN nq
                    have hall2 := HALL.out _ hk
                    obtain ⟨X7, hX7⟩ : ∃ X7, X6.drewN nq = X7 := ⟨_, rfl⟩
                    rw [hX7] at hk hall2 ⊢
                    have HK7 := Lib.hid hk
                    obtain ⟨b0, b1, c3, q3, n0, n1⟩ := hall2
                    clear hX7 hk
                    go_upto_region 38 with fail
                    go_region_held3 (fun w' => w'.cell? ⟨z, 0, none⟩ = some (.int .i64 0) ∧ w'.cell? ⟨z, 1, none⟩ = some (.slice ba 1 ca) ∧ w'.cell? ⟨R.u, 3, none⟩ = some (.slice (some ⟨R.d, 0, none⟩) n n) ∧ w'.cell? ⟨y, 1, none⟩ = some (.int .i64 (q : Int)) ∧ w'.cell? ⟨R.d, q * 2, none⟩ = some (.int .i64 0) ∧ w'.cell? ⟨R.d, q * 2 + 1, none⟩ = some (.slice (some ⟨gn, 0, none⟩) 1 1))
                      (first | exact ⟨b0, b1, c3, q3, n0, n1⟩ | exact HALL.out _ k8 | exact HALL.out _ k8.drew)
                      (first | (go_at_call 20; refine (HCS2.out _ (by first | exact HK7.out | exact HK7.out.drew)).mono ?_; rintro e V8 ⟨rfl, k8⟩))
                    have HX : Hid (At7 V1 A R n (j + 1) V8) := Lib.hid ⟨_, _, _, _, _, _, _, _, _, HE6.out.old k8, by have := HG.out; omega⟩
                    clear k8 HE6 HALL HCS2 HK7 HE HG HBX HP H6
                    go_wp2_with fail
                    go_meet
                    case rel => exact ⟨_, rfl, HX⟩
            by_cases k6 : kd = 6
            · subst k6
              as_aux_lemma =>
                obtain ⟨ii, hii, hz0, hz1, hz2⟩ := info_parts (show (Tryz.prog.info? 3).map (fun i => (i.zero, i.size, i.bytes)) = some (some (.int .i64 0), 1, 8) by kernel_rfl)
                have hk0 : KeptIn (· < W5.heap.size) W5 (W5.alloc (.cells #[] 3)) := (KeptIn.refl _ W5).alloc (fun _ h => h) _
                have hg0 : (W5.alloc (.cells #[] 3)).heap[W5.heap.size]? = some (.cells #[] 3 (0, 0)) := heap_alloc_new W5 _
                have HP0 : Hid (Pk7 W5 n K 0 (.slice (some ⟨W5.heap.size, 0, none⟩) 0 0) [] (W5.alloc (.cells #[] 3))) := Lib.hid ⟨hk0, ⟨rfl, .inr ⟨W5.heap.size, 0, #[], rfl, Nat.le_refl _, hg0, Nat.le_refl _, Nat.zero_le _, rfl, rfl⟩⟩, Nat.le_refl _, (fun z hz => by cases hz)⟩
                clear hk0 hg0
                go_upto_region 42 with fail
                obtain ⟨W0, hW0⟩ : ∃ W0, W5.alloc (.cells #[] 3) = W0 := ⟨_, rfl⟩
                obtain ⟨v0, hv0⟩ : ∃ v0, Value.slice (some ⟨W5.heap.size, 0, none⟩) 0 0 = v0 := ⟨_, rfl⟩
                rw [hW0, hv0] at HP0 ⊢
                clear hW0 hv0 p0 p1 p2 p3
                go_wp2_with fail
                go_loopw [21, 22] (fun v c wr => ∃ (i : Nat) (zs : List Int) (V : World) (v1 : Value), V = wr ∧ v1 = v ∧ i ≤ ll ∧ c = .int .i64 i ∧ Hid (Pk7 W5 n K i v1 zs V)) (fun _ c _ => ll - (RowKit.intOf c).toNat)
                case atStart => exact ⟨0, [], _, _, rfl, rfl, Nat.zero_le _, rfl, HP0⟩
                case round =>
                  obtain ⟨i, zs, V, v, rfl, rfl, hi, rfl, HP⟩ := hrel
                  clear HP0
                  have i0 : (0 : Int) ≤ (i : Int) := by omega
                  have p3 := (HBX.out.old HP.out.kept).c3
                  by_cases hlt2 : i < ll
                  · have i1 : (i : Int) < (ll : Int) := by omega
                    have hEV := HE.out.old HP.out.kept
                    have hil : i < l.length := by rw [HLL.out]; exact hlt2
                    obtain ⟨gl, ol, rfl, hgl, hcl⟩ := HI.out.2.2.cells (by omega)
                    have e1 := (World.cell?_of_block (a := ⟨gl, ol + i, none⟩) (hEV.kept.block gl hgl)).trans (hcl i hil)
                    have HGL := Lib.hid (And.intro hgl (hcl i hil))
                    obtain ⟨z, hz⟩ : ∃ z, l.getD i 0 = z := ⟨_, rfl⟩
                    rw [hz] at e1 HGL
                    have c1 := hEV.r7.c1
                    clear hcl hgl hz
                    by_cases z1 : z < 1
                    · have g1 : decide (1 ≤ z) = false := decide_eq_false (by omega)
                      have g2 : ¬ (1 : Int) ≤ z := by omega
                      clear hEV
                      have HN2 := Lib.hid fun m => HP.out.drewN m
                      have HL2 := Lib.hid (show zs.length ≤ i + 1 by have := HP.out.len; omega)
                      clear HP hil
                      go_wp2_with fail
                      go_quiet (fail)
                      have hp := HN2.out nq
                      generalize V.drewN nq = V2 at *
                      have HP2 : Hid (Pk7 W5 n K (i + 1) v zs V2) := Lib.hid ⟨hp.kept, hp.row, HL2.out, hp.all⟩
                      clear hp HN2
                      go_wp2_with fail
                      go_roundw
                      case rel => exact ⟨i + 1, _, _, _, rfl, rfl, by omega, by go_num, HP2⟩
                      case measure => simp [RowKit.intOf]; omega
                    · have g1 : decide (1 ≤ z) = true := decide_eq_true (by omega)
                      have g2 : (1 : Int) ≤ z := by omega
                      by_cases z2 : (n : Int) ≤ z
                      · have g3 : decide (z < (n : Int)) = false := decide_eq_false (by omega)
                        have g4 : ¬ z < (n : Int) := by omega
                        clear hEV z1
                        have HN2 := Lib.hid fun m => HP.out.drewN m
                        have HL2 := Lib.hid (show zs.length ≤ i + 1 by have := HP.out.len; omega)
                        clear HP hil
                        go_wp2_with fail
                        go_quiet (fail)
                        have hp := HN2.out nq
                        generalize V.drewN nq = V2 at *
                        have HP2 : Hid (Pk7 W5 n K (i + 1) v zs V2) := Lib.hid ⟨hp.kept, hp.row, HL2.out, hp.all⟩
                        clear hp HN2
                        go_wp2_with fail
                        go_roundw
                        case rel => exact ⟨i + 1, _, _, _, rfl, rfl, by omega, by go_num, HP2⟩
                        case measure => simp [RowKit.intOf]; omega
                      · obtain ⟨q, rfl⟩ : ∃ q : Nat, z = (q : Int) := ⟨z.toNat, by omega⟩
                        have x0 : (0 : Int) ≤ (q : Int) := by omega
                        have x1 : (q : Int) < (n : Int) := by omega
                        have g3 : decide ((q : Int) < (n : Int)) = true := decide_eq_true x1
                        have g5 : decide (1 ≤ q) = true := decide_eq_true (by omega)
                        have g6 : decide (q < n) = true := decide_eq_true (by omega)
                        have e3 := hEV.r7.ak q (by omega)
                        have HQ := Lib.hid (show 1 ≤ q ∧ q < n by omega)
                        obtain ⟨kq, hkq⟩ : ∃ kq, K q = kq := ⟨_, rfl⟩
                        rw [hkq] at e3
                        clear hEV z1 z2
                        cases kq with
                        | false =>
                          clear hkq HQ
                          have HN2 := Lib.hid fun m => HP.out.drewN m
                          have HL2 := Lib.hid (show zs.length ≤ i + 1 by have := HP.out.len; omega)
                          clear HP hil
                          go_wp2_with fail
                          go_quiet (fail)
                          have hp := HN2.out nq
                          generalize V.drewN nq = V2 at *
                          have HP2 : Hid (Pk7 W5 n K (i + 1) v zs V2) := Lib.hid ⟨hp.kept, hp.row, HL2.out, hp.all⟩
                          clear hp HN2
                          go_wp2_with fail
                          go_roundw
                          case rel => exact ⟨i + 1, _, _, _, rfl, rfl, by omega, by go_num, HP2⟩
                          case measure => simp [RowKit.intOf]; omega
                        | true =>
                          have HN2 := Lib.hid fun m => HP.out.drewN m
                          have HKQ := Lib.hid hkq
                          clear HP hkq hil
                          go_wp2_with fail
                          go_quiet (fail)
                          have hp := HN2.out nq
                          obtain ⟨V2, hV2⟩ : ∃ V2, V.drewN nq = V2 := ⟨_, rfl⟩
                          rw [hV2] at hp ⊢
                          have p3 := (HBX.out.old hp.kept).c3
                          have e1 := (World.cell?_of_block (a := ⟨gl, ol + i, none⟩) ((HE.out.old hp.kept).kept.block gl HGL.out.1)).trans HGL.out.2
                          have HPV := Lib.hid hp
                          have hszV : W5.heap.size ≤ V2.heap.size := hp.kept.size
                          have hzl : zs.length ≤ 20 := by have := hp.len; omega
                          clear hp hV2 HN2 e3 c1
                          go_wp2_with (at_builtin; refine wpList_append_own _ rfl _ _ 40 rfl W5.heap.size 3 ii (.int .i64 0) 1 8 Tryz.underlying40 hii hz0 hz1 hz2 rfl (by decide) _ _ _ rfl (HPV.out.row.alloc _) ⟨V2.heap.size, 0, none⟩ 1 1 [.int .i64 (q : Int)] rfl rfl (cell_one_new _ _ _) (by simp [Value.oneCell']) (by unfold maxLen; omega) (by omega) (by rw [World.size_alloc]; omega) ?_)
                          intro v' w8 hown' hgrow _
                          have HP2 : Hid (Pk7 W5 n K (i + 1) v' (zs ++ [(q : Int)]) w8) := Lib.hid ⟨kept_grown (B := 0) HPV.out.row HPV.out.kept _ hgrow, by rw [List.length_append, List.map_append]; exact hown', by rw [List.length_append]; have := HPV.out.len; simp; omega, fun z hz => by
                            rcases List.mem_append.1 hz with h | h
                            · exact HPV.out.all z h
                            · exact ⟨q, by simpa using h, HQ.out.1, HQ.out.2, HKQ.out⟩⟩
                          clear hown' hgrow HPV hszV hzl
                          go_wp2_with fail
                          go_roundw
                          case rel => exact ⟨i + 1, _, _, _, rfl, rfl, by omega, by go_num, HP2⟩
                          case measure => simp [RowKit.intOf]; omega
                  · have i1 : (ll : Int) ≤ (i : Int) := by omega
                    have hEV := HE.out.old HP.out.kept
                    obtain ⟨c, cc, rfl, hin⟩ := ints_row hEV.sv HP.out.row (fun z hz => by
                      obtain ⟨q, rfl, q1, q2, _⟩ := HP.out.all z hz
                      have := HN.out.2
                      constructor <;> omega)
                    have hl2 : ∀ q : Nat, 1 ≤ q → (q : Int) ∈ zs → stOf P q = 2 := fun q q1 hq => by
                      obtain ⟨q', e, _, q2, q3⟩ := HP.out.all _ hq
                      obtain rfl : q = q' := by omega
                      have := (HE.out.st q q1 q2).2
                      rw [q3] at this
                      exact of_decide_eq_true this.symm
                    have hap := row_apart7 hEV.r7 HP.out.row
                    have CK := stKeep hEV.sv c cc zs hin
                    have CR : ∀ W6, Fr A V W6 → _ := fun W6 (f : Fr A V W6) => r7Keep (A := A) (hEV.mid f) (by have := HN.out.1; omega) (by have := HN.out.2; omega) c cc zs (hin.fr f) hap
                    have HEV := Lib.hid (And.intro hEV hl2)
                    obtain ⟨m, hm⟩ : ∃ m, zs.length = m := ⟨_, rfl⟩
                    rw [hm] at CK CR ⊢
                    have HCK := Lib.hid CK; have HCR := Lib.hid CR
                    clear CK CR hEV hl2 hap hin HP hm
                    go_wp2_with fail
                    refine HCK.out.mono ?_
                    rintro e W6 ⟨rfl, sv6, f6⟩
                    have HM := Lib.hid (And.intro sv6 f6)
                    have HC2 := Lib.hid (HCR.out W6 f6)
                    clear sv6 f6 HCK HCR
                    go_wp2_with fail
                    refine HC2.out.mono ?_
                    rintro e W7 ⟨rfl, r7, f7⟩
                    have HX : Hid (At7 V1 A R n (j + 1) W7) := Lib.hid ⟨_, _, _, _, _, _, _, _, _, HEV.out.1.keep zs HEV.out.2 HM.out.1 HM.out.2 r7 f7, by have := HG.out; omega⟩
                    clear r7 f7 HM HC2 HEV HE HG HBX
                    go_wp2_with fail
                    go_meet
                    case rel => exact ⟨_, rfl, HX⟩
            have HX : Hid (At7 V1 A R n (j + 1) W5) := Lib.hid ⟨_, _, _, _, _, _, _, _, _, HE.out, by have := HG.out; omega⟩
            clear HE HG HBX
            go_wp2_with fail
            go_meet
            case rel => exact ⟨_, rfl, HX⟩
        case rest =>
          as_aux_lemma =>
            obtain ⟨V, rfl, HX⟩ := hcut
            obtain ⟨p9, S, h, a, P, K, F, L, kk, hE, hgen⟩ := HX.out
            have CC := r7Count hE.r7 (by have := HN.out.1; omega) (by have := HN.out.2; omega)
            obtain ⟨m0, m1⟩ := hE.cnt
            have hH := fun V' (hk : KeptIn (· < V.heap.size) V V') => headQ A h a P V V' hk (hE.sv.isS.old hk)
            have hP := fun V' (hk : KeptIn (· < V.heap.size) V V') => stPages A h a P V' (hE.sv.isS.old hk)
            have hF := fun V' (hk : KeptIn (· < V.heap.size) V V') => stFree A h a P V' (hE.sv.isS.old hk) (by have := hE.sv.two; omega) hE.sv.plen.1
            have hR := fun V' (hk : KeptIn (· < V.heap.size) V V') => stFresh A h a P V' (hE.sv.isS.old hk) (by have := hE.sv.two; omega) hE.sv.plen.1
            simp only [hE.len, m0, m1] at hP hF hR
            obtain ⟨x0, hx0⟩ : ∃ x, cntB (fun q => !F q && !K q) n = x := ⟨_, rfl⟩
            obtain ⟨x1, hx1⟩ : ∃ x, cntB F n = x := ⟨_, rfl⟩
            simp only [hx0, hx1] at CC hF hR
            obtain ⟨G, r0, s0, f0, c0⟩ := h
            unfold headV at hH
            simp only at hH
            have hall : ∀ V', KeptIn (· < V.heap.size) V V' → V'.cell? ⟨R.u, 4, none⟩ = some (.int .u64 (G : Int)) ∧ V'.cell? ⟨R.u, 5, none⟩ = some (.int .i64 r0) ∧ V'.cell? ⟨R.u, 6, none⟩ = some (.int .i64 s0) ∧ V'.cell? ⟨R.u, 7, none⟩ = some (.int .i64 f0) ∧ V'.cell? ⟨R.u, 8, none⟩ = some (.int .i64 c0) := fun V' hk => by
              have k := hE.r7.old hk
              exact ⟨k.c4, k.c5, k.c6, k.c7, k.c8⟩
            have HH := Lib.hid hH; have HP := Lib.hid hP; have HF := Lib.hid hF; have HR := Lib.hid hR; have HCC := Lib.hid CC; have HALL := Lib.hid hall
            clear hE hgen CC hH hP hF hR hall m0 m1 hx0 hx1 H5 p0 p1 p2 p3
            go_wp2_with fail
            refine HCC.out.mono ?_
            rintro e w' ⟨rfl, rfl⟩
            clear HCC
            go_upto_region 50 with fail
            obtain ⟨b4, b5, b6, b7, b8⟩ := HALL.out V (KeptIn.refl _ _)
            go_region_held3 (fun w' => w'.cell? ⟨R.u, 4, none⟩ = some (.int .u64 (G : Int)) ∧ w'.cell? ⟨R.u, 5, none⟩ = some (.int .i64 r0) ∧ w'.cell? ⟨R.u, 6, none⟩ = some (.int .i64 s0) ∧ w'.cell? ⟨R.u, 7, none⟩ = some (.int .i64 f0) ∧ w'.cell? ⟨R.u, 8, none⟩ = some (.int .i64 c0))
              (first | exact ⟨b4, b5, b6, b7, b8⟩ | exact HALL.out _ (KeptIn.refl _ _) | exact HALL.out _ (KeptIn.refl _ _).drew | exact HALL.out _ k5)
              (first | (go_at_call 24; refine (HH.out _ (KeptIn.refl _ _).drew).mono ?_; rintro e V5 ⟨rfl, k5⟩) | (go_at_call 25; refine (HP.out _ k5).mono ?_; rintro e _ ⟨rfl, rfl⟩) | (go_at_call 26; refine (HF.out _ k5).mono ?_; rintro e _ ⟨rfl, rfl⟩) | (go_at_call 27; refine (HR.out _ k5).mono ?_; rintro e _ ⟨rfl, rfl⟩))
            have HX5 := Lib.hid (HX.out.old k5)
            clear k5 HX HALL HH HP HF HR b4 b5 b6 b7 b8
            go_wp2_with fail
            go_roundw
            case rel => exact ⟨j + 1, _, rfl, by omega, by omega, by go_num, HX5⟩
            case measure => simp [RowKit.intOf]; omega
      · have d2 : (40 : Int) ≤ (j : Int) := by omega
        go_wp2_with fail
        go_ret
        exact ⟨rfl, HKV.out.step HJ.out.kept⟩
    · have d1 : (len1 : Int) ≤ (j : Int) := by omega
      go_wp2_with fail
      go_ret
      exact ⟨rfl, HKV.out.step HJ.out.kept⟩

end Go.Proofs.YtkgjmejgkffbdaaGreatDoor
