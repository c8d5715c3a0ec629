/- HeatOrder of layer 15: the walk: it returns true for every input and writes nothing that was there. -/
import Derived.Test.YtdbohcdjamhdjaaOrd15
import Derived.Test.YtdbohcdjamhdjaaRu15
import Derived.Test.YtdbohcdjamhdjaaArgs
import Derived.Test.YtdbohcdjamhdjaaNums
set_option linter.unusedVariables false
namespace Go.Proofs.Ytdbohcdjamhdjaa
open Go.RowKit Go.Maps

/-- Two books that a law has made. -/
structure H2 (w1 : World) (b m : Nat) (f : Int → Nat) (b' m' : Nat) (g : Int → Nat) (W : World) : Prop where
  ha : HL w1 b m f W
  hb : HL w1 b' m' g W
  ne : m ≠ m'
section
variable {w1 W W' : World} {b m b' m' : Nat} {f g f' : Int → Nat} {e : Ending}
theorem H2.old (H : H2 w1 b m f b' m' g W) (hk : KeptIn (· < W.heap.size) W W') : H2 w1 b m f b' m' g W' := ⟨H.ha.old hk, H.hb.old hk, H.ne⟩
theorem H2.fst (H : H2 w1 b m f b' m' g W) (h : HlD w1 b m f' W e W') : H2 w1 b m f' b' m' g W' :=
  ⟨h.2.1, ⟨H.hb.bk.kept h.2.2 ⟨H.hb.bk.lt, H.ha.bk.mp.ne H.hb.bk.hb⟩ ⟨H.hb.bk.mp.lt, H.ne.symm⟩, h.2.1.kept, H.hb.hm⟩, H.ne⟩
theorem H2.sec (H : H2 w1 b m f b' m' g W) (h : HlD w1 b' m' f' W e W') : H2 w1 b m f b' m' f' W' :=
  ⟨⟨H.ha.bk.kept h.2.2 ⟨H.ha.bk.lt, H.hb.bk.mp.ne H.ha.bk.hb⟩ ⟨H.ha.bk.mp.lt, H.ne⟩, h.2.1.kept, H.ha.hm⟩, h.2.1, H.ne⟩
theorem H2.new (H : HL w1 b m f W) (hN : NewHt W e W') : ∃ b' m', e = .returned (.pointer (some ⟨b', 0, none⟩)) ∧ H2 w1 b m f b' m' (fun _ => 0) W' := by
  obtain ⟨b', m', rfl, h1, h2, h3, h4⟩ := hN
  have := H.bk.mp.lt
  exact ⟨b', m', rfl, H.old h4, ⟨h1, H.kept.on15 h4, Nat.le_trans H.kept.size h2⟩, by omega⟩
theorem H2.row (H : H2 w1 b m f b' m' g W) {T : TypeId} {r : Nat} {l : List Nat} (hr : RowU T r l W) : m ≠ r ∧ m' ≠ r ∧ (T ≠ 84 → b ≠ r ∧ b' ≠ r) := by
  refine ⟨(H.ha.bk.mp.ne hr).symm, (H.hb.bk.mp.ne hr).symm, fun ht => ⟨fun e => ?_, fun e => ?_⟩⟩
  · have := H.ha.bk.hb
    rw [e, hr] at this
    simp only [Option.some.injEq, Obj.cells.injEq] at this
    exact ht this.2.1
  · have := H.hb.bk.hb
    rw [e, hr] at this
    simp only [Option.some.injEq, Obj.cells.injEq] at this
    exact ht this.2.1
theorem H2.kept (H : H2 w1 b m f b' m' g W) {X : Nat → Prop} (hk : KeptIn X W W') (hw : ∀ k, k < w1.heap.size → X k) (h1 : X b) (h2 : X m) (h3 : X b') (h4 : X m') : H2 w1 b m f b' m' g W' :=
  ⟨⟨H.ha.bk.kept hk h1 h2, H.ha.kept.trans (hk.mono hw), H.ha.hm⟩, ⟨H.hb.bk.kept hk h3 h4, H.hb.kept.trans (hk.mono hw), H.hb.hm⟩, H.ne⟩
end
/-- A contract of Of for a region that draws its order. -/
theorem htOfQ {W : World} {b m : Nat} {f : Int → Nat} (H : HBk b m f W) (c : Int) (hc : (Lit.int .i64 c).wf = true) (n : Nat) :
    Calls Try.prog 18 #[.pointer (some ⟨b, 0, none⟩), .int .i64 c] (W.drewN n) fun e w' => e = .returned (.int .i64 (f c : Int)) ∧ w' = W.drewN n :=
  (htOf (H.old ((KeptIn.refl _ _).drewN n)) c hc).mono fun e w' ⟨h1, h2⟩ => ⟨h1, h2.symm⟩

/-- What the law notes of a book: the chunks below c. -/
def wasL (f : Int → Nat) (c : Nat) : List Nat := (List.range 22).map fun i : Nat => if 1 ≤ i ∧ i < c then f (i : Int) else 0
theorem wasL_length (f : Int → Nat) (c : Nat) : (wasL f c).length = 22 := by simp [wasL]
theorem wasL_one (f : Int → Nat) : wasL f 1 = zeros22 := by
  refine List.ext_getElem (by rw [wasL_length, zeros22_length]) fun i h1 h2 => ?_
  simp only [wasL, zeros22, List.getElem_map, List.getElem_range, List.getElem_replicate]
  rw [if_neg (by omega)]
theorem wasL_set (f : Int → Nat) (c : Nat) (h1 : 1 ≤ c) : (wasL f c).set c (f (c : Int)) = wasL f (c + 1) := by
  refine List.ext_getElem (by simp [wasL_length]) fun i h2 h3 => ?_
  rw [List.getElem_set]
  by_cases e : c = i
  · subst e
    have : 1 ≤ c ∧ c < c + 1 := by omega
    simp [wasL, this]
  · rw [if_neg e]
    have : (1 ≤ i ∧ i < c) ↔ (1 ≤ i ∧ i < c + 1) := by omega
    simp [wasL, this]
theorem wasL_at (f : Int → Nat) (i : Nat) (h1 : 1 ≤ i) (h2 : i ≤ 20) : (wasL f 21)[i]? = some (f (i : Int)) := by
  have : 1 ≤ i ∧ i < 21 := by omega
  rw [List.getElem?_eq_getElem (by rw [wasL_length]; omega)]
  simp [wasL, this]
/-- Two books alike, and what is noted. -/
structure St2 (w1 : World) (b m b' m' : Nat) (f : Int → Nat) (r : Nat) (l : List Nat) (W : World) : Prop where
  h : H2 w1 b m f b' m' f W
  row : RowU 60 r l W
  lo : w1.heap.size ≤ r
theorem St2.set {w1 W : World} {b m b' m' r : Nat} {f : Int → Nat} {l : List Nat} (H : St2 w1 b m b' m' f r l W) (i x : Nat) : St2 w1 b m b' m' f r (l.set i x) (W.setCell ⟨r, i, none⟩ (.int .i64 (x : Int))) := by
  obtain ⟨n1, n2, n3⟩ := H.h.row H.row
  obtain ⟨n3, n4⟩ := n3 (by decide)
  have hr := H.lo
  exact ⟨H.h.kept (X := (· ≠ r)) ((KeptIn.refl _ W).setCell (by simp) _) (fun k h => by omega) n3 n1 n4 n2, H.row.set i x, hr⟩
theorem St2.old {w1 W W' : World} {b m b' m' r : Nat} {f : Int → Nat} {l : List Nat} (H : St2 w1 b m b' m' f r l W) (hk : KeptIn (· < W.heap.size) W W') : St2 w1 b m b' m' f r l W' := ⟨H.h.old hk, H.row.old hk, H.lo⟩
theorem or_half (x : Nat) (h : x ≤ 1048576) : ((x : Int) / 2 != wrap64 ((x : Int) / 2)) = false := by
  have : wrap64 ((x : Int) / 2) = (x : Int) / 2 := by unfold wrap64; omega
  rw [this]; simp
theorem or_cidx (c : Nat) (h : c ≤ 21) : (0 : Int) ≤ (c : Int) ∧ (c : Int) < 22 ∧ (c : Int) ≤ 21 ∧ c < 22 := by omega

abbrev zf : Int → Nat := fun _ => 0
theorem or_num (x : Int) : ∃ c : Int, 1 + IntKind.u64.wrap x % 20 = c ∧ IntKind.i64.wrap (1 + IntKind.i64.wrap ((IntKind.u64.wrap x).tmod 20)) = c ∧ 1 ≤ c ∧ c ≤ 20 := by
  have hw : 0 ≤ IntKind.u64.wrap x := by rw [IntKind.wrap_u64]; exact Int.emod_nonneg _ (by decide)
  refine ⟨_, rfl, ?_, by omega, by omega⟩
  have e : (IntKind.u64.wrap x).tmod 20 = IntKind.u64.wrap x % 20 := Int.tmod_eq_emod_of_nonneg hw
  have b0 : 0 ≤ IntKind.u64.wrap x % 20 := Int.emod_nonneg _ (by decide)
  have b1 : IntKind.u64.wrap x % 20 < 20 := Int.emod_lt_of_pos _ (by decide)
  rw [e, IntWalk.i64_in (IntKind.u64.wrap x % 20) (by omega), IntWalk.i64_in (1 + IntKind.u64.wrap x % 20) (by omega)]
theorem or_idx (n j : Nat) (h : j < n) (hn : n ≤ 60) : ∃ a k : Nat, IntKind.i64.wrap ((n : Int) - 1) = (a : Int) ∧ IntKind.i64.wrap ((a : Int) - (j : Int)) = (k : Int) ∧ k < n ∧ n - 1 - j = k := by
  refine ⟨n - 1, n - 1 - j, ?_, ?_, by omega, rfl⟩
  · rw [IntWalk.i64_in _ (by omega)]; omega
  · rw [IntWalk.i64_in _ (by omega)]; omega

set_option maxRecDepth 100000 in
set_option maxHeartbeats 4000000 in
theorem ordW15 (a1 : Option Addr) (len1 cap1 : Nat) (zs1 : List Int) (a2 : Option Addr) (len2 cap2 : Nat) (zs2 : List Int) (d : Int) (w : World) (w1 : IsRow .i64 w a1 len1 cap1 zs1) (w2 : IsRow .i64 w a2 len2 cap2 zs2) (wd : (Lit.int .i64 d).wf = true) :
    Calls Try.prog 6 #[.slice a1 len1 cap1, .slice a2 len2 cap2, .int .i64 d] w fun e w' => e = .returned (.bool true) ∧ KeptIn (· < w.heap.size) w w' := by
  have l1 := w1.len_le
  have l2 := w2.len_le
  unfold maxLen at l1 l2
  have b1 : (len1 : Int) ≤ 9223372036854775807 := by omega
  have b2 : (len2 : Int) ≤ 9223372036854775807 := by omega
  have WA := Lib.hid (And.intro w1 w2)
  obtain ⟨k, hk6, n6⟩ : ∃ k : Nat, k < 6 ∧ wrap64 ((IntKind.u64.wrap d).tmod 6) = (k : Int) := modWalk d 6 (by decide) (by decide)
  obtain ⟨n, hn, n0, n1, n2⟩ : ∃ n : Nat, min (min (len1 : Int) (len2 : Int)) 60 = (n : Int) ∧ n ≤ len1 ∧ n ≤ len2 ∧ n ≤ 60 := ⟨min (min len1 len2) 60, by omega, by omega, by omega, by omega⟩
  have n3 : (n : Int) ≤ 60 := by omega
  have HK6 := Lib.hid (And.intro hk6 n6)
  have HN := Lib.hid (And.intro n0 (And.intro n1 n2))
  clear w1 w2 l1 l2 wd n6 hk6 n0 n1 n2
  go_enter Try.func6, Try.ntmps6
  go_wp2_with fail
  refine (awake15 w).mono ?_
  rintro e W1 ⟨rfl, k1⟩
  have HK1 := Lib.hid k1
  clear k1
  go_wp2_with fail
  refine (htNew W1).mono ?_
  rintro e W2 hN
  obtain ⟨b, m, rfl, hH, -⟩ := HL.new hN
  have HA := Lib.hid hH
  clear hN hH
  go_wp2_with fail
  refine (htNew W2).mono ?_
  rintro e W3 hN
  obtain ⟨b', m', rfl, hH⟩ := H2.new HA.out hN
  have H0 : Hid (H2 W1 b m (tchL zf (rowO zs1 zs2 0)) b' m' (tchL zf (rowR zs1 zs2 n 0)) W3) := Lib.hid hH
  clear hN hH HA
  go_wp2_with fail
  clear hn
  go_loopw [10] (fun i wr => ∃ (j : Nat) (V : World), V = wr ∧ j ≤ n ∧ i = .int .i64 (j : Int) ∧ Hid (H2 W1 b m (tchL zf (rowO zs1 zs2 j)) b' m' (tchL zf (rowR zs1 zs2 n j)) V)) (fun i _ => n - (RowKit.intOf i).toNat)
  case atStart => exact ⟨0, _, rfl, Nat.zero_le _, rfl, H0⟩
  case round =>
    obtain ⟨j, V, rfl, hj, rfl, HJ⟩ := hrel
    clear H0
    have j0 : (0 : Int) ≤ (j : Int) := by omega
    by_cases hlt : j < n
    · have j1 : (j : Int) < (n : Int) := by omega
      have hn1 := HN.out.1
      have hn2 := HN.out.2.1
      have hn3 := HN.out.2.2
      have j2 : (j : Int) < (len1 : Int) := by omega
      have j3 : (j : Int) < (len2 : Int) := by omega
      obtain ⟨g1, o1, rfl, hg1, hel1⟩ := WA.out.1.elem (by omega)
      obtain ⟨g2, o2, rfl, hg2, hel2⟩ := WA.out.2.elem (by omega)
      have HC : Hid (∀ Q, KeptIn (· < w.heap.size) w Q → ∀ i, i < n → Q.cell? ⟨g1, o1 + i, none⟩ = some (.int .i64 (zs1.getD i 0)) ∧ Q.cell? ⟨g2, o2 + i, none⟩ = some (.int .i64 (zs2.getD i 0)) ∧ (Lit.int .i64 (zs2.getD i 0)).wf = true) := Lib.hid fun Q hq i hi =>
        ⟨(World.cell?_of_block (a := ⟨g1, o1 + i, none⟩) (hq.block g1 hg1)).trans (hel1 i (by omega)).1, (World.cell?_of_block (a := ⟨g2, o2 + i, none⟩) (hq.block g2 hg2)).trans (hel2 i (by omega)).1, (hel2 i (by omega)).2⟩
      obtain ⟨c0, c1, wy⟩ := HC.out V.drew (HK1.out.on15 HJ.out.ha.kept).drew j hlt
      obtain ⟨p, hp, i1, p1, p2⟩ := or_num (zs1.getD j 0)
      have wp := ch_wf15 p (by omega) (by omega)
      have hst : tch (tchL zf (rowO zs1 zs2 j)) p (zs2.getD j 0) = tchL zf (rowO zs1 zs2 (j + 1)) := by rw [rowO_succ, tchL_snoc, ← hp]; rfl
      obtain ⟨x, hx⟩ : ∃ x, zs1.getD j 0 = x := ⟨_, rfl⟩
      obtain ⟨y, hy⟩ : ∃ y, zs2.getD j 0 = y := ⟨_, rfl⟩
      rw [hx] at c0 i1
      rw [hy] at c1 wy hst
      have k0 : KeptIn (· < V.heap.size) V V.drew := (KeptIn.refl _ _).drew
      have hJd := HJ.out.old k0
      have CT := Lib.hid (hJd.ha.touch p y wp wy)
      rw [hst] at CT
      have HJd := Lib.hid hJd
      have HXY := Lib.hid (And.intro hx hy)
      clear hx hy hel1 hel2 hst wp wy hp p1 p2 k0 hJd HJ hn1 hn2 hn3
      go_upto_region 9 with fail
      go_region_held3 (fun Q => Q.cell? ⟨g1, o1 + j, none⟩ = some (.int .i64 x) ∧ Q.cell? ⟨g2, o2 + j, none⟩ = some (.int .i64 y))
        (first | exact ⟨c0, c1⟩ | exact ⟨q1, q2⟩ | go_keep)
        (first | (go_at_call 13; refine CT.out.mono ?_; rintro e U2 hD; have HU := Lib.hid (HJd.out.fst hD); obtain ⟨q1, q2, -⟩ := HC.out _ (HK1.out.on15 HU.out.ha.kept) j hlt; rw [HXY.out.1] at q1; rw [HXY.out.2] at q2; obtain rfl : e = .returned (.tuple #[]) := hD.1))
      all_goals
        clear CT HJd q1 q2 c0 c1 i1 hD HXY
        obtain ⟨a, t, r1, r2, r3, r4⟩ := or_idx n j hlt HN.out.2.2
        obtain ⟨c0, -, -⟩ := HC.out U2.drew (HK1.out.on15 HU.out.ha.kept).drew t r3
        obtain ⟨-, c1, wy⟩ := HC.out U2.drew (HK1.out.on15 HU.out.ha.kept).drew t r3
        obtain ⟨p', hp, i1, p1, p2⟩ := or_num (zs1.getD t 0)
        have wp := ch_wf15 p' (by omega) (by omega)
        have hst : tch (tchL zf (rowR zs1 zs2 n j)) p' (zs2.getD t 0) = tchL zf (rowR zs1 zs2 n (j + 1)) := by rw [rowR_succ, tchL_snoc, ← hp, r4]; rfl
        obtain ⟨x', hx⟩ : ∃ x', zs1.getD t 0 = x' := ⟨_, rfl⟩
        obtain ⟨y', hy⟩ : ∃ y', zs2.getD t 0 = y' := ⟨_, rfl⟩
        rw [hx] at c0 i1
        rw [hy] at c1 wy hst
        have hJd := HU.out.old ((KeptIn.refl _ U2).drew)
        have CT := Lib.hid (hJd.hb.touch p' y' wp wy)
        rw [hst] at CT
        have HJd := Lib.hid hJd
        have HXY := Lib.hid (And.intro hx hy)
        have r5 : (t : Int) < (len1 : Int) := by have := HN.out.1; omega
        have r6 : (t : Int) < (len2 : Int) := by have := HN.out.2.1; omega
        have r7 : (0 : Int) ≤ (t : Int) := by omega
        have HR3 := Lib.hid r3
        clear hx hy hst wp wy hp p1 p2 hJd HU r3 r4
        go_wp2_with fail
        go_region_held3 (fun Q => Q.cell? ⟨g1, o1 + t, none⟩ = some (.int .i64 x') ∧ Q.cell? ⟨g2, o2 + t, none⟩ = some (.int .i64 y'))
          (first | exact ⟨c0, c1⟩ | exact ⟨q1, q2⟩ | go_keep)
          (first | (go_at_call 13; refine CT.out.mono ?_; rintro e U3 hD; have HU := Lib.hid (HJd.out.sec hD); obtain ⟨q1, q2, -⟩ := HC.out _ (HK1.out.on15 HU.out.ha.kept) t HR3.out; rw [HXY.out.1] at q1; rw [HXY.out.2] at q2; obtain rfl : e = .returned (.tuple #[]) := hD.1))
        all_goals
          clear CT HJd q1 q2 c0 c1 i1 hD HXY r1 r2 r5 r6 r7 HR3
          go_wp2_with fail
          go_roundw
          case rel => exact ⟨j + 1, _, rfl, by omega, by go_num, HU⟩
          case measure => simp only [RowKit.intOf]; omega
    · have j1 : ¬ (j : Int) < (n : Int) := by omega
      obtain rfl : j = n := by omega
      obtain ⟨f, hf⟩ : ∃ f, tchL zf (rowO zs1 zs2 j) = f := ⟨_, rfl⟩
      have hJ := HJ.out
      rw [tchL_perm (rowR_perm zs1 zs2 j), hf] at hJ
      have HF := Lib.hid hJ
      clear hf hJ HJ hlt
      go_wp2_with fail
      clear j1
      go_loopw [11, 12, 13, 14, 15] (fun i _ _ _ _ wr => ∃ (t : Nat) (F : Int → Nat) (V2 : World), V2 = wr ∧ t ≤ k + 1 ∧ i = .int .i64 (t : Int) ∧ Hid (H2 W1 b m F b' m' F V2)) (fun i _ _ _ _ _ => k + 1 - (RowKit.intOf i).toNat)
      case atStart => exact ⟨0, _, _, rfl, Nat.zero_le _, rfl, HF⟩
      case round =>
        obtain ⟨t, F, V2, rfl, ht, rfl, HT⟩ := hrel
        clear HF
        have t0 : (0 : Int) ≤ (t : Int) := by omega
        have t9 : (t : Int) ≤ 100 := by have := HK6.out.1; omega
        have k6 := HK6.out.2
        by_cases hlt : t ≤ k
        · have t1 : (t : Int) ≤ (k : Int) := by omega
          go_wp2_with fail
          clear k6 t1
          go_loopw [12] (fun i wr => ∃ (c : Nat), V2 = wr ∧ c ≤ 22 ∧ i = .int .i64 (c : Int)) (fun i _ => 22 - (RowKit.intOf i).toNat)
          case atStart => exact ⟨0, by trivial, Nat.zero_le _, rfl⟩
          case round =>
            obtain ⟨c, rfl, hc, rfl⟩ := hrel
            by_cases hlc : c ≤ 21
            · obtain ⟨c1, c2, c3, -⟩ := or_cidx c hlc
              have wc := ch_wf15 (c : Int) (by omega) (by omega)
              have CA := Lib.hid (HT.out.ha.of (c : Int) wc)
              have CB := Lib.hid (HT.out.hb.of (c : Int) wc)
              clear wc
              go_wp2_with fail
              refine CA.out.mono ?_
              rintro e _ ⟨rfl, rfl⟩
              go_wp2_with fail
              refine CB.out.mono ?_
              rintro e _ ⟨rfl, rfl⟩
              clear CA CB
              go_wp2_with fail
              go_roundw
              case rel => exact ⟨c + 1, by trivial, by omega, by go_num⟩
              case measure => simp only [RowKit.intOf]; omega
            · obtain rfl : c = 22 := by omega
              clear hlc
              go_wp2_with (first | (refine wpList_build_22 rfl rfl ?_) | (refine wpList_alloc_22 rfl rfl ?_))
              intro V3 hr3 hk3 hs3
              obtain ⟨r, hr⟩ : ∃ r, V2.heap.size = r := ⟨_, rfl⟩
              rw [hr] at hr3 hs3 ⊢
              have HR3 := Lib.hid hr3
              go_wp2_with (refine wpList_store_22 rfl _ _ rfl r zeros22 zeros22 rfl rfl zeros22_length zeros22_length HR3.out ?_)
              intro V4 hr4 hk4 hs4
              have hkk : KeptIn (· < V2.heap.size) V2 V4 := hk3.trans (hk4.mono fun k h => by omega)
              have HS0 : Hid (St2 W1 b m b' m' F r (wasL F 1) V4) := Lib.hid ⟨HT.out.old hkk, by rw [wasL_one]; exact hr4, by rw [← hr]; exact HT.out.ha.kept.size⟩
              clear hr3 hk3 hs3 HR3 hr4 hk4 hs4 hkk HT hr
              go_wp2_with fail
              go_loopw [14] (fun i wr => ∃ (c : Nat) (V5 : World), V5 = wr ∧ 1 ≤ c ∧ c ≤ 21 ∧ i = .int .i64 (c : Int) ∧ Hid (St2 W1 b m b' m' F r (wasL F c) V5)) (fun i _ => 21 - (RowKit.intOf i).toNat)
              case atStart => exact ⟨1, _, rfl, Nat.le_refl _, by omega, rfl, HS0⟩
              case round =>
                obtain ⟨c, V5, rfl, hc0, hc, rfl, HS⟩ := hrel
                clear HS0
                by_cases hlc : c ≤ 20
                · obtain ⟨c1, c2, c3, c4⟩ := or_cidx c (by omega)
                  have c5 : (c : Int) ≤ 20 := by omega
                  have wc := ch_wf15 (c : Int) (by omega) (by omega)
                  have CA := Lib.hid (HS.out.h.ha.of (c : Int) wc)
                  have hS2 := HS.out.set c (F (c : Int))
                  rw [wasL_set _ _ hc0] at hS2
                  obtain ⟨x, hx⟩ : ∃ x, F (c : Int) = x := ⟨_, rfl⟩
                  rw [hx] at CA hS2
                  have HS2 := Lib.hid hS2
                  have fr := HS.out.row.fro c
                  have ce : V5.cell? ⟨r, c, none⟩ = some (.int .i64 ((wasL F c)[c]'(by rw [wasL_length]; omega) : Nat)) := HS.out.row.cell (List.getElem?_eq_getElem (by rw [wasL_length]; omega))
                  generalize ((wasL F c)[c]'(by rw [wasL_length]; omega)) = y0 at ce
                  clear wc hS2 hx HS
                  go_wp2_with fail
                  refine CA.out.mono ?_
                  rintro e _ ⟨rfl, rfl⟩
                  clear CA
                  go_wp2_with fail
                  go_roundw
                  case rel => exact ⟨c + 1, _, rfl, by omega, by omega, by go_num, HS2⟩
                  case measure => simp only [RowKit.intOf]; omega
                · obtain rfl : c = 21 := by omega
                  have CD := Lib.hid HS.out.h.ha.decay
                  have HJM := Lib.hid HS.out.h.ha.bk.mx
                  clear hlc
                  go_wp2_with fail
                  refine CD.out.mono ?_
                  rintro e V6 hD
                  have h6 := HS.out.h.fst hD
                  have r6 : RowU 60 r (wasL F 21) V6 := HS.out.row.kept hD.2.2 ⟨HS.out.row.lt, (HS.out.h.row HS.out.row).1.symm⟩
                  obtain rfl : e = .returned (.tuple #[]) := hD.1
                  have H6 := Lib.hid (And.intro h6 (And.intro r6 HS.out.lo))
                  have CE := Lib.hid h6.hb.decay
                  clear CD hD h6 r6 HS
                  go_wp2_with fail
                  refine CE.out.mono ?_
                  rintro e V7 hD
                  have hS7 : St2 W1 b m b' m' (dcy F) r (wasL F 21) V7 := ⟨H6.out.1.sec hD, H6.out.2.1.kept hD.2.2 ⟨H6.out.2.1.lt, (H6.out.1.row H6.out.2.1).2.1.symm⟩, H6.out.2.2⟩
                  obtain rfl : e = .returned (.tuple #[]) := hD.1
                  have HS7 := Lib.hid hS7
                  clear CE hD H6 hS7
                  go_wp2_with fail
                  go_loopw [15] (fun i wr => ∃ (c : Nat) (X : World), X = wr ∧ 1 ≤ c ∧ c ≤ 21 ∧ i = .int .i64 (c : Int) ∧ Hid (St2 W1 b m b' m' (dcy F) r (wasL F 21) X)) (fun i _ => 21 - (RowKit.intOf i).toNat)
                  case atStart => exact ⟨1, _, rfl, Nat.le_refl _, by omega, rfl, HS7⟩
                  case round =>
                    obtain ⟨c, X, rfl, hc0, hc, rfl, HS⟩ := hrel
                    clear HS7
                    by_cases hlc : c ≤ 20
                    · obtain ⟨c1, c2, c3, c4⟩ := or_cidx c (by omega)
                      have c5 : (c : Int) ≤ 20 := by omega
                      have wc := ch_wf15 (c : Int) (by omega) (by omega)
                      have CA := Lib.hid fun nq => htOfQ HS.out.h.ha.bk (c : Int) wc nq
                      have ce := HS.out.row.cell (wasL_at F c hc0 hlc)
                      have hd : dcy F (c : Int) = F (c : Int) / 2 := rfl
                      obtain ⟨x, hx⟩ : ∃ x, F (c : Int) = x := ⟨_, rfl⟩
                      have hxa := HJM.out (c : Int)
                      rw [hx] at ce hd
                      rw [hd] at CA
                      have HX := Lib.hid (or_half x (by rw [← hx]; exact hxa))
                      clear wc hd hx hxa
                      go_wp2_with fail
                      go_quiet ((go_at_call 18; exact Calls.quiet_of_same (CA.out _)))
                      rw [HX.out]
                      have HN2 : Hid (St2 W1 b m b' m' (dcy F) r (wasL F 21) (X.drewN nq)) := Lib.hid (HS.out.old ((KeptIn.refl _ X).drewN nq))
                      clear HS CA HX ce c1 c2 c3 c4
                      go_wp2_with fail
                      go_roundw
                      case rel => exact ⟨c + 1, _, rfl, by omega, by omega, by go_num, HN2⟩
                      case measure => simp only [RowKit.intOf]; omega
                    · obtain rfl : c = 21 := by omega
                      have HN2 : Hid (H2 W1 b m (dcy F) b' m' (dcy F) X) := Lib.hid HS.out.h
                      clear HS hlc
                      go_wp2_with fail
                      go_roundw
                      case rel => exact ⟨t + 1, _, _, rfl, by omega, by go_num, HN2⟩
                      case measure => simp only [RowKit.intOf]; omega
        · have t1 : ¬ (t : Int) ≤ (k : Int) := by omega
          have CA := Lib.hid HT.out.ha.sum
          clear hlt
          go_wp2_with fail
          refine CA.out.mono ?_
          rintro e V3 ⟨rfl, k3⟩
          have CB := Lib.hid (HT.out.hb.old k3).sum
          have HKE := Lib.hid ((HK1.out.on15 HT.out.ha.kept).on15 k3)
          clear CA k3 HT k6 t1
          go_wp2_with fail
          refine CB.out.mono ?_
          rintro e V4 ⟨rfl, k4⟩
          have HKF := Lib.hid (HKE.out.on15 k4)
          clear CB k4 HKE
          go_wp2_with fail
          go_ret
          exact ⟨rfl, HKF.out⟩

end Go.Proofs.Ytdbohcdjamhdjaa
