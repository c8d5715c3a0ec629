/- SlotsKeep of layer 10: the walk: it returns true for every input and writes nothing that was there. -/
import Derived.Test.YteppjjgnkjkfhaaAgain10W
import Derived.Deep.Cut
set_option linter.unusedVariables false
namespace Go.Proofs.Yteppjjgnkjkfhaa
open Go.RowKit

/-- Whether a state was used at the last commit. -/
def slBd (x : Int) : Bool := x == 2 || x == 3

theorem map_set_same {f : Int → Bool} (l : List Int) (i : Nat) (x : Int) (h : i < l.length → f x = f (l.getD i 0)) : (l.set i x).map f = l.map f := by
  rw [List.map_set]
  rcases Nat.lt_or_ge i l.length with hi | hi
  · have := h hi
    rw [List.getD_eq_getElem?_getD, List.getElem?_eq_getElem hi] at this
    refine List.ext_getElem (by simp) fun j h1 h2 => ?_
    rw [List.getElem_set]
    split
    · rename_i e; subst e; rw [this]; simp
    · rfl
  · rw [List.set_eq_of_length_le (by simpa using hi)]

theorem idx_zero {l : List Int} (h : 0 < l.count 0) : l.idxOf 0 < l.length ∧ l.getD (l.idxOf 0) 0 = 0 := by
  have h1 := low_lt h
  refine ⟨h1, ?_⟩
  rw [List.getD_eq_getElem?_getD, List.getElem?_eq_getElem h1, Option.getD_some]
  exact List.getElem_idxOf h1

/-- Slots, and the law's two rows of bools. -/
structure Kp10 (w : World) (s g gb gu k : Nat) (l : List Int) (B U : List Bool) (W : World) : Prop where
  a : At10 w s g k l W
  rb : RowF 4 Value.bool gb B W
  ru : RowF 4 Value.bool gu U W
  lb : B.length = k
  lu : U.length = k
  ne : gb ≠ gu
  hb : w.heap.size ≤ gb
  hu : w.heap.size ≤ gu

section
variable {w W W' : World} {s g gb gu k : Nat} {l l' : List Int} {B U : List Bool}
theorem Kp10.gb_ne (h : Kp10 w s g gb gu k l B U W) : g ≠ gb := h.rb.ne h.a.sl.row (by decide)
theorem Kp10.gu_ne (h : Kp10 w s g gb gu k l B U W) : g ≠ gu := h.ru.ne h.a.sl.row (by decide)
theorem Kp10.sb_ne (h : Kp10 w s g gb gu k l B U W) : s ≠ gb := h.rb.ne h.a.sl.hs (by decide)
theorem Kp10.su_ne (h : Kp10 w s g gb gu k l B U W) : s ≠ gu := h.ru.ne h.a.sl.hs (by decide)
theorem Kp10.step (h : Kp10 w s g gb gu k l B U W) (h1 : IsSl s g l' W') (h2 : Ok4 l') (h3 : l'.length = k) (h4 : KeptIn (· ≠ g) W W') : Kp10 w s g gb gu k l' B U W' :=
  ⟨h.a.step h1 h2 h3 h4, h.rb.kept (h4.block gb h.gb_ne.symm), h.ru.kept (h4.block gu h.gu_ne.symm), h.lb, h.lu, h.ne, h.hb, h.hu⟩
theorem Kp10.old (h : Kp10 w s g gb gu k l B U W) (h4 : KeptIn (· < W.heap.size) W W') : Kp10 w s g gb gu k l B U W' :=
  ⟨h.a.old h4, h.rb.kept (h4.block gb h.rb.lt), h.ru.kept (h4.block gu h.ru.lt), h.lb, h.lu, h.ne, h.hb, h.hu⟩
theorem Kp10.setU (h : Kp10 w s g gb gu k l B U W) (j : Nat) (x : Bool) : Kp10 w s g gb gu k l B (U.set j x) (W.setCell ⟨gu, j, none⟩ (.bool x)) :=
  ⟨⟨⟨by rw [heap_setCell_other _ _ _ _ h.su_ne]; exact h.a.sl.hs, h.a.sl.row.kept (heap_setCell_other _ _ _ _ h.gu_ne), h.a.sl.le⟩, h.a.ok, h.a.len, h.a.kept.setCell (p := ⟨gu, j, none⟩) (by have := h.hu; simp; omega) _, h.a.hs, h.a.hg⟩,
   h.rb.kept (heap_setCell_other _ _ _ _ h.ne), h.ru.set j x, h.lb, by rw [List.length_set]; exact h.lu, h.ne, h.hb, h.hu⟩
theorem Kp10.setB (h : Kp10 w s g gb gu k l B U W) (j : Nat) (x : Bool) : Kp10 w s g gb gu k l (B.set j x) U (W.setCell ⟨gb, j, none⟩ (.bool x)) :=
  ⟨⟨⟨by rw [heap_setCell_other _ _ _ _ h.sb_ne]; exact h.a.sl.hs, h.a.sl.row.kept (heap_setCell_other _ _ _ _ h.gb_ne), h.a.sl.le⟩, h.a.ok, h.a.len, h.a.kept.setCell (p := ⟨gb, j, none⟩) (by have := h.hb; simp; omega) _, h.a.hs, h.a.hg⟩,
   h.rb.set j x, h.ru.kept (heap_setCell_other _ _ _ _ (Ne.symm h.ne)), by rw [List.length_set]; exact h.lb, h.lu, h.ne, h.hb, h.hu⟩
end

theorem bl_get {l : List Bool} {j : Nat} (h : j < l.length) : l[j]? = some (l.getD j false) := by rw [List.getD_eq_getElem?_getD, List.getElem?_eq_getElem h]; rfl
theorem map_getD {f : Int → Bool} {l : List Int} {j : Nat} (h : j < l.length) : (l.map f).getD j false = f (l.getD j 0) := by
  rw [List.getD_eq_getElem?_getD, List.getD_eq_getElem?_getD, List.getElem?_map, List.getElem?_eq_getElem h]; rfl

/-- The first j of a row copied from another one. -/
def cpy (B U : List Bool) (j : Nat) : List Bool := U.take j ++ B.drop j
theorem cpy_set (B U : List Bool) (j : Nat) (h : j < U.length) (hl : B.length = U.length) : (cpy B U j).set j (U.getD j false) = cpy B U (j + 1) := by
  have h1 : (U.take j).length = j := by rw [List.length_take]; omega
  unfold cpy
  rw [List.set_append_right _ _ (by omega), h1, Nat.sub_self, List.drop_eq_getElem_cons (by omega), List.set_cons_zero, List.take_succ_eq_append_getElem h, List.append_assoc, List.getD_eq_getElem?_getD, List.getElem?_eq_getElem h]
  rfl
theorem cpy_all (B U : List Bool) (j : Nat) (h : U.length ≤ j) (hl : B.length = U.length) : cpy B U j = U := by
  unfold cpy
  rw [List.take_of_length_le h, List.drop_eq_nil_of_le (by omega), List.append_nil]
theorem cnt_true (U : List Bool) (j : Nat) (h : j < U.length) : (U.take (j + 1)).count true = (U.take j).count true + (if U.getD j false = true then 1 else 0) := by
  rw [List.take_succ_eq_append_getElem h, List.count_append, List.count_singleton, List.getD_eq_getElem?_getD, List.getElem?_eq_getElem h]
  simp
theorem com_use (l : List Int) (h : Ok4 l) : (l.map comL).map slUse = l.map slUse ∧ (l.map comL).map slBd = l.map slUse := by
  rw [List.map_map, List.map_map]
  constructor
  · refine List.map_congr_left fun x hx => ?_
    rcases h x hx with rfl | rfl | rfl | rfl <;> rfl
  · refine List.map_congr_left fun x hx => ?_
    rcases h x hx with rfl | rfl | rfl | rfl <;> rfl

theorem take_rows {l : List Int} (h : 0 < l.count 0) : (l.map slBd).getD (l.idxOf 0) false = false ∧ (l.map slUse).getD (l.idxOf 0) false = false ∧ (l.set (l.idxOf 0) 1).map slBd = l.map slBd ∧ (l.set (l.idxOf 0) 1).map slUse = (l.map slUse).set (l.idxOf 0) true := by
  obtain ⟨h1, h2⟩ := idx_zero h
  refine ⟨by rw [map_getD h1, h2]; rfl, by rw [map_getD h1, h2]; rfl, map_set_same _ _ _ fun _ => by rw [h2]; rfl, ?_⟩
  rw [List.map_set]
  rfl

theorem give_rows {l : List Int} (hl : Ok4 l) {i : Nat} (h : i < l.length) : (giveL l i).map slBd = l.map slBd ∧ (giveL l i).map slUse = (l.map slUse).set i false ∧ (giveE l i = 0 ↔ slUse (l.getD i 0) = true) ∧ (giveE l i ≠ 0 → slUse (l.getD i 0) = false ∧ giveL l i = l) := by
  have hin : slIn l.length (i : Int) = true := by simp [slIn, h]
  have hE : giveE l i = if slUse (l.getD i 0) = true then 0 else 7 := by unfold giveE; rw [if_pos hin, Int.toNat_natCast]
  have hL : giveL l i = if giveE l i = 0 then l.set i (if l.getD i 0 = 2 then 3 else 0) else l := by unfold giveL; rw [Int.toNat_natCast]
  by_cases hu : slUse (l.getD i 0) = true
  · rw [if_pos hu] at hE
    rw [if_pos hE] at hL
    refine ⟨?_, ?_, ⟨fun _ => hu, fun _ => hE⟩, fun hne => absurd hE hne⟩
    · rw [hL]
      refine map_set_same _ _ _ fun _ => ?_
      rcases ok4_at hl i with e | e | e | e <;> rw [e] at hu ⊢ <;> first | rfl | (simp [slUse] at hu)
    · rw [hL, List.map_set]
      congr 1
      split <;> rfl
  · rw [if_neg hu] at hE
    rw [if_neg (by rw [hE]; decide)] at hL
    rw [Bool.not_eq_true] at hu
    refine ⟨by rw [hL], ?_, ⟨fun e => absurd e (by rw [hE]; decide), fun e => absurd (hu.symm.trans e) (by decide)⟩, fun _ => ⟨hu, hL⟩⟩
    have h5 := map_set_same (f := slUse) l i 0 (fun _ => by rw [hu]; rfl)
    rw [List.map_set] at h5
    rw [hL]
    exact h5.symm




set_option maxHeartbeats 1000000 in
set_option maxRecDepth 100000 in
theorem keepW (n : Int) (a : Option Addr) (len cap : Nat) (zs : List Int) (w : World) (wn : (Lit.int .i64 n).wf = true) (w0 : IsRow .i64 w a len cap zs) :
    Calls Try.prog 4 #[.int .i64 n, .slice a len cap] w fun e w' => e = .returned (.bool true) ∧ KeptIn (· < w.heap.size) w w' := by
  have l0 := w0.len_le
  unfold maxLen at l0
  have b0 : (len : Int) ≤ 9223372036854775807 := by omega
  obtain ⟨kk, hkk, hkw⟩ : ∃ k : Nat, k < 30 ∧ wrap64 ((IntKind.u64.wrap n).tmod 30) = (k : Int) := modWalk n 30 (by decide) (by decide)
  obtain ⟨k, hk⟩ : ∃ k, kk + 2 = k := ⟨_, rfl⟩
  have hk2 : 2 ≤ k := by omega
  have hk31 : k ≤ 31 := by omega
  have hkw2 : wrap64 (2 + wrap64 ((IntKind.u64.wrap n).tmod 30)) = (k : Int) := by rw [hkw]; unfold wrap64; omega
  have W0 := Lib.hid w0
  have CN := Lib.hid fun V => slNew (k : Int) k V (by omega)
  clear w0 l0 wn hk hkw hkk
  by_cases hbig : 100 < len
  · have b1 : (100 : Int) < (len : Int) := by omega
    go_enter Try.func4, Try.ntmps4
    go_wp2_with fail
    refine (awake10 w).mono ?_
    rintro e w3 ⟨rfl, k3⟩
    go_wp2_with fail
    go_ret
    exact ⟨rfl, k3⟩
  have b1 : (len : Int) ≤ 100 := by omega
  obtain ⟨i0, hi, hz0, hz1, hz2⟩ := info1_parts (P := Try.prog) (T := 4) (z := .bool false) (n := 1) (b := 1) (by kernel_rfl)
  go_enter Try.func4, Try.ntmps4
  go_wp2_with fail
  refine (awake10 w).mono ?_
  rintro e w3 ⟨rfl, k3⟩
  go_wp2_with fail
  rw [hkw2]
  refine (CN.out w3).mono ?_
  rintro e w4 ⟨s, g, rfl, h4, k4, hs, hg⟩
  have H4 : Hid (At10 w s g k (List.replicate k 0) w4) := Lib.hid ⟨h4, ok4_zero k, by simp, k3.trans (k4.mono fun k h => Nat.lt_of_lt_of_le h k3.size), Nat.le_trans k3.size hs, Nat.le_trans k3.size hg⟩
  clear h4 k4 k3 hs hg CN hkw2
  have kI : (k : Int) ≤ 31 := by omega
  go_wp2_with (at_make; first | (refine wpList_make_full _ rfl _ _ 39 rfl w4.heap.size 4 i0 _ 1 Try.underlying39 hi hz0 hz1 .i64 .i64 k k k rfl rfl rfl rfl (by rw [hz2]; omega) (by unfold maxLen; omega) (Nat.le_refl _) ?_; intro w5 hown hgrow) | (refine wpList_make_full _ rfl _ _ 39 rfl w5.heap.size 4 i0 _ 1 Try.underlying39 hi hz0 hz1 .i64 .i64 k k k rfl rfl rfl rfl (by rw [hz2]; omega) (by unfold maxLen; omega) (Nat.le_refl _) ?_; intro w6 hown2 hgrow2))
  have hrow : RowF 4 Value.bool w4.heap.size (List.replicate k false) w5 := by
    refine rowF_made ?_
    have : (madeCells (Value.cells (.bool false)) (k * 1)).toList = List.replicate k (Value.bool false) := made_one k
    rw [← this]
    exact hown
  have hk5 : KeptIn (· < w4.heap.size) w4 w5 := (KeptIn.refl _ _).grown (row := none) (fun _ h => h) hgrow (by simp)
  have hle4 : w.heap.size ≤ w4.heap.size := H4.out.kept.size
  have H5 : Hid (At10 w s g k (List.replicate k 0) w5 ∧ RowF 4 Value.bool w4.heap.size (List.replicate k false) w5) := Lib.hid ⟨H4.out.old hk5, hrow⟩
  have hrow2 : RowF 4 Value.bool w5.heap.size (List.replicate k false) w6 := by
    refine rowF_made ?_
    have : (madeCells (Value.cells (.bool false)) (k * 1)).toList = List.replicate k (Value.bool false) := made_one k
    rw [← this]
    exact hown2
  have hk6 : KeptIn (· < w5.heap.size) w5 w6 := (KeptIn.refl _ _).grown (row := none) (fun _ h => h) hgrow2 (by simp)
  have H6 : Hid (Kp10 w s g w4.heap.size w5.heap.size k (List.replicate k 0) ((List.replicate k 0).map slBd) ((List.replicate k 0).map slUse) w6) := Lib.hid (by
    rw [List.map_replicate, List.map_replicate]
    exact ⟨H5.out.1.old hk6, H5.out.2.kept (hk6.block _ H5.out.2.lt), hrow2, by simp, by simp, Nat.ne_of_lt H5.out.2.lt, hle4, H5.out.1.kept.size⟩)
  clear hown hgrow hrow hk5 H4 hown2 hgrow2 hrow2 hk6 H5 hle4
  generalize w4.heap.size = gb at *
  generalize w5.heap.size = gu at *
  go_wp2_with fail
  go_loopw [9, 10, 11, 12, 13, 14, 15, 16, 17] (fun c _ _ _ _ _ _ _ _ W => ∃ (j : Nat) (W' : World) (l : List Int), W' = W ∧ j ≤ len ∧ c = .int .i64 j ∧ Hid (Kp10 w s g gb gu k l (l.map slBd) (l.map slUse) W)) (fun c _ _ _ _ _ _ _ _ _ => len - (intOf c).toNat)
  case atStart => exact ⟨0, _, _, rfl, Nat.zero_le _, rfl, H6⟩
  case round =>
    obtain ⟨j, W, l, rfl, hj, rfl, HJ⟩ := hrel
    clear H6
    have d0 : (0 : Int) ≤ (j : Int) := by omega
    by_cases hlt : j < len
    · have d1 : (j : Int) < (len : Int) := by omega
      obtain ⟨ba, oa, rfl, hba, hca⟩ := W0.out.elem (by omega)
      obtain ⟨ca, fa⟩ := hca j (by omega)
      have g0 := (World.cell?_of_block (a := ⟨ba, oa + j, none⟩) (HJ.out.a.kept.block ba hba)).trans ca
      obtain ⟨x, hx90, hxw⟩ : ∃ x : Nat, x < 100 ∧ wrap64 ((IntKind.u64.wrap (zs.getD j 0)).tmod 100) = (x : Int) := modWalk _ 100 (by decide) (by decide)
      generalize zs.getD j 0 = z at *
      clear hca fa ca
      have x0 : (0 : Int) ≤ (x : Int) := by omega
      have x1 : (x : Int) < 100 := by omega
      have k0 : (0 : Int) < (k : Int) := by omega
      have hx0 : x % 4 = 0 ∨ x % 4 = 1 ∨ x % 4 = 2 ∨ x % 4 = 3 := by omega
      rcases hx0 with hx0 | hx0 | hx0 | hx0
      · have t0 : (x : Int).tmod 4 = 0 := by rw [Int.tmod_eq_emod_of_nonneg x0]; omega
        rcases Nat.lt_or_ge 1 (l.count 0) with hc | hc
        · have CT := Lib.hid (slTakeYes s g l W HJ.out.a.sl hc)
          go_wp2_with fail
          refine CT.out.mono ?_
          rintro e W1 ⟨rfl, h1, k1⟩
          have h2 := HJ.out.step h1 (ok4_set HJ.out.a.ok _ (by omega)) (by rw [List.length_set]; exact HJ.out.a.len) k1
          obtain ⟨t1, t2, t3, t4⟩ := take_rows (l := l) (by omega)
          obtain ⟨hi1, hi2⟩ := idx_zero (l := l) (by omega)
          rw [HJ.out.a.len] at hi1
          have c1 := h2.rb.cell (l.idxOf 0) (bl_get (by rw [h2.lb]; exact hi1))
          have c2 := h2.ru.cell (l.idxOf 0) (bl_get (by rw [h2.lu]; exact hi1))
          have f2 := h2.ru.fro (l.idxOf 0)
          rw [t1] at c1
          rw [t2] at c2
          have h3 := h2.setU (l.idxOf 0) true
          rw [← t3, ← t4] at h3
          obtain ⟨q, hq⟩ : ∃ q, l.idxOf 0 = q := ⟨_, rfl⟩
          rw [hq] at c1 c2 f2 h3 hi1
          rw [hq]
          obtain ⟨L, hL⟩ : ∃ L, l.set q 1 = L := ⟨_, rfl⟩
          rw [hL] at h3
          obtain ⟨V, hV⟩ : ∃ V, W1.setCell ⟨gu, q, none⟩ (.bool true) = V := ⟨_, rfl⟩
          rw [hV] at h3
          have HV := Lib.hid hV
          have HX := Lib.hid h3
          have q0 : (0 : Int) ≤ (q : Int) := by omega
          have q1 : (q : Int) < (k : Int) := by omega
          clear h1 k1 h2 t1 t2 t3 t4 hi1 hi2 h3 hq hL hV HJ
          go_upto_region 40 with fail
          rw [HV.out]
          clear HV c1 c2 f2
          go_wp2_with fail
          go_loopw [16, 17] (fun n c W => ∃ (i m : Nat) (W' : World), W' = W ∧ W = V ∧ i ≤ k ∧ m ≤ i ∧ c = .int .i64 i ∧ n = .int .i64 m ∧ Hid (m = ((L.map slUse).take i).count true)) (fun _ c _ => k - (intOf c).toNat)
          case atStart => exact ⟨0, 0, _, rfl, by trivial, Nat.zero_le _, Nat.le_refl _, rfl, rfl, Lib.hid (by simp)⟩
          case round =>
            obtain ⟨i, m, V0, rfl, rfl, hi, hmi, rfl, rfl, HI⟩ := hrel
            have i0 : (0 : Int) ≤ (i : Int) := by omega
            by_cases hik : i < k
            · have i1 : (i : Int) < (k : Int) := by omega
              have m0 : (0 : Int) ≤ (m : Int) := by omega
              have m1 : (m : Int) ≤ 31 := by omega
              have hil : i < (L.map slUse).length := by rw [HX.out.lu]; exact hik
              have e1 := HX.out.ru.cell i (bl_get hil)
              have hc := cnt_true (L.map slUse) i hil
              obtain ⟨y, hy⟩ : ∃ y, (L.map slUse).getD i false = y := ⟨_, rfl⟩
              rw [hy] at e1 hc
              clear hy hil
              cases y with
              | true =>
                rw [if_pos rfl, ← HI.out] at hc
                have HI2 := Lib.hid hc.symm
                clear HI hc
                go_wp2_with fail
                go_roundw
                case rel => exact ⟨i + 1, m + 1, _, rfl, by trivial, by omega, by omega, by go_num, by go_num, HI2⟩
                case measure => simp [intOf]; omega
              | false =>
                rw [if_neg (by decide), ← HI.out, Nat.add_zero] at hc
                have HI2 := Lib.hid hc.symm
                clear HI hc
                go_wp2_with fail
                go_roundw
                case rel => exact ⟨i + 1, m, _, rfl, by trivial, by omega, by omega, by go_num, rfl, HI2⟩
                case measure => simp [intOf]; omega
            · have i1 : (k : Int) ≤ (i : Int) := by omega
              have hm : m = (usedL L L.length).length := by
                rw [HI.out, List.take_of_length_le (by rw [HX.out.lu]; omega), usedL_all, List.count_eq_countP, List.countP_map]
                refine List.countP_congr fun x _ => ?_
                simp [slUse]
              have h3 := ok4_three HX.out.a.ok
              rw [← usedL_all, ← hm, HX.out.a.len] at h3
              clear HI
              have CU := slUsed s g _ _ HX.out.a.sl
              have HM := Lib.hid hm
              have HCU := Lib.hid CU
              clear CU hm
              go_wp2_with fail
              refine HCU.out.mono ?_
              rintro e W9 ⟨v9, rfl, h9, k9⟩
              have HY : Hid (Kp10 w s g gb gu k L (L.map slBd) (L.map slUse) W9) := Lib.hid (HX.out.old k9)
              obtain ⟨au, cu, rfl, _⟩ := h9.shape
              rw [← HM.out]
              have FR := Lib.hid (slFree s g _ W9 HY.out.a.sl)
              have WA := Lib.hid (slWaits s g _ W9 HY.out.a.sl)
              obtain ⟨F, hF⟩ : ∃ F, L.count 0 = F := ⟨_, rfl⟩
              obtain ⟨A, hA⟩ : ∃ A, L.count 3 = A := ⟨_, rfl⟩
              rw [hF] at FR h3
              rw [hA] at WA h3
              have h4 : (F : Int) + (A : Int) + (m : Int) = (k : Int) := by omega
              have F0 : (0 : Int) ≤ (F : Int) := by omega
              have F1 : (F : Int) ≤ 31 := by omega
              have A0 : (0 : Int) ≤ (A : Int) := by omega
              have A1 : (A : Int) ≤ 31 := by omega
              have m0 : (0 : Int) ≤ (m : Int) := by omega
              have m1 : (m : Int) ≤ 31 := by omega
              clear h9 k9 hF hA HCU HX h3
              go_wp2_with (first | (go_at_call 20; refine WA.out.mono ?_; rintro e _ ⟨rfl, rfl⟩) | (go_at_call 18; refine FR.out.mono ?_; rintro e _ ⟨rfl, rfl⟩))
              clear FR WA
              have HX := HY
              go_roundw
              case rel => exact ⟨j + 1, _, _, rfl, by omega, by go_num, HX⟩
              case measure => simp [intOf]; omega
        · have CT := Lib.hid (slTakeNo s g l W HJ.out.a.sl hc)
          obtain ⟨F, hF⟩ : ∃ F, l.count 0 = F := ⟨_, rfl⟩
          have CF := slFree s g l W HJ.out.a.sl
          rw [hF] at CF hc
          have FR := Lib.hid CF
          have F1 : (F : Int) ≤ 1 := by omega
          have HX := HJ
          clear CF hF hc HJ
          go_wp2_with (first | (go_at_call 9; refine CT.out.mono ?_; rintro e _ ⟨rfl, rfl⟩) | (go_at_call 18; refine FR.out.mono ?_; rintro e _ ⟨rfl, rfl⟩))
          go_roundw
          case rel => exact ⟨j + 1, _, _, rfl, by omega, by go_num, HX⟩
          case measure => simp [intOf]; omega
      · have t0 : (x : Int).tmod 4 = 1 := by rw [Int.tmod_eq_emod_of_nonneg x0]; omega
        rcases Nat.lt_or_ge 0 (l.count 0) with hc | hc
        · have CT := Lib.hid (slMoveYes s g l W HJ.out.a.sl hc)
          go_wp2_with fail
          refine CT.out.mono ?_
          rintro e W1 ⟨rfl, h1, k1⟩
          have h2 := HJ.out.step h1 (ok4_set HJ.out.a.ok _ (by omega)) (by rw [List.length_set]; exact HJ.out.a.len) k1
          obtain ⟨t1, t2, t3, t4⟩ := take_rows (l := l) (by omega)
          obtain ⟨hi1, hi2⟩ := idx_zero (l := l) (by omega)
          rw [HJ.out.a.len] at hi1
          have c1 := h2.rb.cell (l.idxOf 0) (bl_get (by rw [h2.lb]; exact hi1))
          have c2 := h2.ru.cell (l.idxOf 0) (bl_get (by rw [h2.lu]; exact hi1))
          have f2 := h2.ru.fro (l.idxOf 0)
          rw [t1] at c1
          rw [t2] at c2
          have h3 := h2.setU (l.idxOf 0) true
          rw [← t3, ← t4] at h3
          obtain ⟨q, hq⟩ : ∃ q, l.idxOf 0 = q := ⟨_, rfl⟩
          rw [hq] at c1 c2 f2 h3 hi1
          rw [hq]
          obtain ⟨L, hL⟩ : ∃ L, l.set q 1 = L := ⟨_, rfl⟩
          rw [hL] at h3
          obtain ⟨V, hV⟩ : ∃ V, W1.setCell ⟨gu, q, none⟩ (.bool true) = V := ⟨_, rfl⟩
          rw [hV] at h3
          have HV := Lib.hid hV
          have HX := Lib.hid h3
          have q0 : (0 : Int) ≤ (q : Int) := by omega
          have q1 : (q : Int) < (k : Int) := by omega
          clear h1 k1 h2 t1 t2 t3 t4 hi1 hi2 h3 hq hL hV HJ
          go_upto_region 40 with fail
          rw [HV.out]
          clear HV c1 c2 f2
          go_wp2_with fail
          go_loopw [16, 17] (fun n c W => ∃ (i m : Nat) (W' : World), W' = W ∧ W = V ∧ i ≤ k ∧ m ≤ i ∧ c = .int .i64 i ∧ n = .int .i64 m ∧ Hid (m = ((L.map slUse).take i).count true)) (fun _ c _ => k - (intOf c).toNat)
          case atStart => exact ⟨0, 0, _, rfl, by trivial, Nat.zero_le _, Nat.le_refl _, rfl, rfl, Lib.hid (by simp)⟩
          case round =>
            obtain ⟨i, m, V0, rfl, rfl, hi, hmi, rfl, rfl, HI⟩ := hrel
            have i0 : (0 : Int) ≤ (i : Int) := by omega
            by_cases hik : i < k
            · have i1 : (i : Int) < (k : Int) := by omega
              have m0 : (0 : Int) ≤ (m : Int) := by omega
              have m1 : (m : Int) ≤ 31 := by omega
              have hil : i < (L.map slUse).length := by rw [HX.out.lu]; exact hik
              have e1 := HX.out.ru.cell i (bl_get hil)
              have hc := cnt_true (L.map slUse) i hil
              obtain ⟨y, hy⟩ : ∃ y, (L.map slUse).getD i false = y := ⟨_, rfl⟩
              rw [hy] at e1 hc
              clear hy hil
              cases y with
              | true =>
                rw [if_pos rfl, ← HI.out] at hc
                have HI2 := Lib.hid hc.symm
                clear HI hc
                go_wp2_with fail
                go_roundw
                case rel => exact ⟨i + 1, m + 1, _, rfl, by trivial, by omega, by omega, by go_num, by go_num, HI2⟩
                case measure => simp [intOf]; omega
              | false =>
                rw [if_neg (by decide), ← HI.out, Nat.add_zero] at hc
                have HI2 := Lib.hid hc.symm
                clear HI hc
                go_wp2_with fail
                go_roundw
                case rel => exact ⟨i + 1, m, _, rfl, by trivial, by omega, by omega, by go_num, rfl, HI2⟩
                case measure => simp [intOf]; omega
            · have i1 : (k : Int) ≤ (i : Int) := by omega
              have hm : m = (usedL L L.length).length := by
                rw [HI.out, List.take_of_length_le (by rw [HX.out.lu]; omega), usedL_all, List.count_eq_countP, List.countP_map]
                refine List.countP_congr fun x _ => ?_
                simp [slUse]
              have h3 := ok4_three HX.out.a.ok
              rw [← usedL_all, ← hm, HX.out.a.len] at h3
              clear HI
              have CU := slUsed s g _ _ HX.out.a.sl
              have HM := Lib.hid hm
              have HCU := Lib.hid CU
              clear CU hm
              go_wp2_with fail
              refine HCU.out.mono ?_
              rintro e W9 ⟨v9, rfl, h9, k9⟩
              have HY : Hid (Kp10 w s g gb gu k L (L.map slBd) (L.map slUse) W9) := Lib.hid (HX.out.old k9)
              obtain ⟨au, cu, rfl, _⟩ := h9.shape
              rw [← HM.out]
              have FR := Lib.hid (slFree s g _ W9 HY.out.a.sl)
              have WA := Lib.hid (slWaits s g _ W9 HY.out.a.sl)
              obtain ⟨F, hF⟩ : ∃ F, L.count 0 = F := ⟨_, rfl⟩
              obtain ⟨A, hA⟩ : ∃ A, L.count 3 = A := ⟨_, rfl⟩
              rw [hF] at FR h3
              rw [hA] at WA h3
              have h4 : (F : Int) + (A : Int) + (m : Int) = (k : Int) := by omega
              have F0 : (0 : Int) ≤ (F : Int) := by omega
              have F1 : (F : Int) ≤ 31 := by omega
              have A0 : (0 : Int) ≤ (A : Int) := by omega
              have A1 : (A : Int) ≤ 31 := by omega
              have m0 : (0 : Int) ≤ (m : Int) := by omega
              have m1 : (m : Int) ≤ 31 := by omega
              clear h9 k9 hF hA HCU HX h3
              go_wp2_with (first | (go_at_call 20; refine WA.out.mono ?_; rintro e _ ⟨rfl, rfl⟩) | (go_at_call 18; refine FR.out.mono ?_; rintro e _ ⟨rfl, rfl⟩))
              clear FR WA
              have HX := HY
              go_roundw
              case rel => exact ⟨j + 1, _, _, rfl, by omega, by go_num, HX⟩
              case measure => simp [intOf]; omega
        · have CT := Lib.hid (slMoveNo s g l W HJ.out.a.sl (by omega))
          obtain ⟨F, hF⟩ : ∃ F, l.count 0 = F := ⟨_, rfl⟩
          have CF := slFree s g l W HJ.out.a.sl
          rw [hF] at CF hc
          have FR := Lib.hid CF
          have F1 : (F : Int) ≤ 1 := by omega
          have HX := HJ
          clear CF hF hc HJ
          go_wp2_with (first | (go_at_call 10; refine CT.out.mono ?_; rintro e _ ⟨rfl, rfl⟩) | (go_at_call 18; refine FR.out.mono ?_; rintro e _ ⟨rfl, rfl⟩))
          go_roundw
          case rel => exact ⟨j + 1, _, _, rfl, by omega, by go_num, HX⟩
          case measure => simp [intOf]; omega
      · have t0 : (x : Int).tmod 4 = 2 := by rw [Int.tmod_eq_emod_of_nonneg x0]; omega
        obtain ⟨q, hq⟩ : ∃ q, x % k = q := ⟨_, rfl⟩
        have hqk : q < k := by rw [← hq]; exact Nat.mod_lt _ (by omega)
        have hq1 : (x : Int) % (k : Int) = (q : Int) := by rw [← hq]; exact (Int.natCast_emod x k).symm
        have hq2 : (x : Int).tmod (k : Int) = (q : Int) := by rw [Int.tmod_eq_emod_of_nonneg x0]; exact hq1
        have hql : q < l.length := by rw [HJ.out.a.len]; exact hqk
        obtain ⟨r1, r2, r3, r4⟩ := give_rows HJ.out.a.ok hql
        have CG := slGive (q : Int) s g l W HJ.out.a.sl
        have c2 := map_getD (f := slUse) hql
        obtain ⟨E, hE⟩ : ∃ E, giveE l q = E := ⟨_, rfl⟩
        have hEb : (E == 0) = slUse (l.getD q 0) := by
          by_cases h0 : slUse (l.getD q 0) = true
          · rw [h0, beq_iff_eq, ← hE]; exact r3.2 h0
          · rw [Bool.not_eq_true] at h0
            rw [h0, beq_eq_false_iff_ne, ← hE]
            exact fun e => by rw [r3.1 e] at h0; cases h0
        obtain ⟨u, hu⟩ : ∃ u, slUse (l.getD q 0) = u := ⟨_, rfl⟩
        rw [hE] at CG
        rw [hu] at c2 hEb
        obtain ⟨L, hL⟩ : ∃ L, giveL l q = L := ⟨_, rfl⟩
        have hok : Ok4 L ∧ L.length = k := by rw [← hL]; exact ⟨ok4_give HJ.out.a.ok _, (giveL_length _ _).trans HJ.out.a.len⟩
        rw [hL] at CG r1 r2
        have HCG := Lib.hid CG
        have HR := Lib.hid (And.intro r1 (And.intro r2 (And.intro c2 hok)))
        clear CG r1 r2 r3 r4 hE hL hu c2 hok hql hq
        go_wp2_with fail
        refine HCG.out.mono ?_
        rintro e W1 ⟨rfl, h1, k1⟩
        have h2 := HJ.out.step h1 HR.out.2.2.2.1 HR.out.2.2.2.2 k1
        have c2 := h2.ru.cell q (bl_get (by rw [h2.lu]; exact hqk))
        rw [HR.out.2.2.1] at c2
        have f2 := h2.ru.fro q
        have h3 := h2.setU q false
        rw [← HR.out.1, ← HR.out.2.1] at h3
        obtain ⟨V, hV⟩ : ∃ V, W1.setCell ⟨gu, q, none⟩ (.bool false) = V := ⟨_, rfl⟩
        rw [hV] at h3
        have HV := Lib.hid hV
        have HX := Lib.hid h3
        have q0 : (0 : Int) ≤ (q : Int) := by omega
        have q1 : (q : Int) < (k : Int) := by omega
        clear h1 k1 h2 h3 hV HJ HR HCG hqk
        go_upto_region 40 with fail
        rw [HV.out]
        clear HV c2 f2
        go_wp2_with fail
        go_loopw [16, 17] (fun n c W => ∃ (i m : Nat) (W' : World), W' = W ∧ W = V ∧ i ≤ k ∧ m ≤ i ∧ c = .int .i64 i ∧ n = .int .i64 m ∧ Hid (m = ((L.map slUse).take i).count true)) (fun _ c _ => k - (intOf c).toNat)
        case atStart => exact ⟨0, 0, _, rfl, by trivial, Nat.zero_le _, Nat.le_refl _, rfl, rfl, Lib.hid (by simp)⟩
        case round =>
          obtain ⟨i, m, V0, rfl, rfl, hi, hmi, rfl, rfl, HI⟩ := hrel
          have i0 : (0 : Int) ≤ (i : Int) := by omega
          by_cases hik : i < k
          · have i1 : (i : Int) < (k : Int) := by omega
            have m0 : (0 : Int) ≤ (m : Int) := by omega
            have m1 : (m : Int) ≤ 31 := by omega
            have hil : i < (L.map slUse).length := by rw [HX.out.lu]; exact hik
            have e1 := HX.out.ru.cell i (bl_get hil)
            have hc := cnt_true (L.map slUse) i hil
            obtain ⟨y, hy⟩ : ∃ y, (L.map slUse).getD i false = y := ⟨_, rfl⟩
            rw [hy] at e1 hc
            clear hy hil
            cases y with
            | true =>
              rw [if_pos rfl, ← HI.out] at hc
              have HI2 := Lib.hid hc.symm
              clear HI hc
              go_wp2_with fail
              go_roundw
              case rel => exact ⟨i + 1, m + 1, _, rfl, by trivial, by omega, by omega, by go_num, by go_num, HI2⟩
              case measure => simp [intOf]; omega
            | false =>
              rw [if_neg (by decide), ← HI.out, Nat.add_zero] at hc
              have HI2 := Lib.hid hc.symm
              clear HI hc
              go_wp2_with fail
              go_roundw
              case rel => exact ⟨i + 1, m, _, rfl, by trivial, by omega, by omega, by go_num, rfl, HI2⟩
              case measure => simp [intOf]; omega
          · have i1 : (k : Int) ≤ (i : Int) := by omega
            have hm : m = (usedL L L.length).length := by
              rw [HI.out, List.take_of_length_le (by rw [HX.out.lu]; omega), usedL_all, List.count_eq_countP, List.countP_map]
              refine List.countP_congr fun x _ => ?_
              simp [slUse]
            have h3 := ok4_three HX.out.a.ok
            rw [← usedL_all, ← hm, HX.out.a.len] at h3
            clear HI
            have CU := slUsed s g _ _ HX.out.a.sl
            have HM := Lib.hid hm
            have HCU := Lib.hid CU
            clear CU hm
            go_wp2_with fail
            refine HCU.out.mono ?_
            rintro e W9 ⟨v9, rfl, h9, k9⟩
            have HY : Hid (Kp10 w s g gb gu k L (L.map slBd) (L.map slUse) W9) := Lib.hid (HX.out.old k9)
            obtain ⟨au, cu, rfl, _⟩ := h9.shape
            rw [← HM.out]
            have FR := Lib.hid (slFree s g _ W9 HY.out.a.sl)
            have WA := Lib.hid (slWaits s g _ W9 HY.out.a.sl)
            obtain ⟨F, hF⟩ : ∃ F, L.count 0 = F := ⟨_, rfl⟩
            obtain ⟨A, hA⟩ : ∃ A, L.count 3 = A := ⟨_, rfl⟩
            rw [hF] at FR h3
            rw [hA] at WA h3
            have h4 : (F : Int) + (A : Int) + (m : Int) = (k : Int) := by omega
            have F0 : (0 : Int) ≤ (F : Int) := by omega
            have F1 : (F : Int) ≤ 31 := by omega
            have A0 : (0 : Int) ≤ (A : Int) := by omega
            have A1 : (A : Int) ≤ 31 := by omega
            have m0 : (0 : Int) ≤ (m : Int) := by omega
            have m1 : (m : Int) ≤ 31 := by omega
            clear h9 k9 hF hA HCU HX h3
            go_wp2_with (first | (go_at_call 20; refine WA.out.mono ?_; rintro e _ ⟨rfl, rfl⟩) | (go_at_call 18; refine FR.out.mono ?_; rintro e _ ⟨rfl, rfl⟩))
            clear FR WA
            have HX := HY
            go_roundw
            case rel => exact ⟨j + 1, _, _, rfl, by omega, by go_num, HX⟩
            case measure => simp [intOf]; omega
      · have t0 : (x : Int).tmod 4 = 3 := by rw [Int.tmod_eq_emod_of_nonneg x0]; omega
        go_wp2_with fail
        refine (slCommit s g l W HJ.out.a.sl).mono ?_
        rintro e W1 ⟨rfl, h1, k1⟩
        have h2 := HJ.out.step h1 (ok4_com HJ.out.a.ok) (by rw [List.length_map]; exact HJ.out.a.len) k1
        have hcu := com_use l HJ.out.a.ok
        obtain ⟨L, hL⟩ : ∃ L, l.map comL = L := ⟨_, rfl⟩
        obtain ⟨B, hB⟩ : ∃ B, l.map slBd = B := ⟨_, rfl⟩
        obtain ⟨U, hU⟩ : ∃ U, l.map slUse = U := ⟨_, rfl⟩
        rw [hL, hU] at hcu
        rw [hL, hB, hU] at h2
        have HCU := Lib.hid hcu
        have HC0 : Hid (Kp10 w s g gb gu k L (cpy B U 0) U W1) := Lib.hid (by simpa [cpy] using h2)
        have HL : Hid (B.length = k ∧ U.length = k) := Lib.hid ⟨h2.lb, h2.lu⟩
        clear h1 k1 h2 hcu hL hB hU HJ
        go_wp2_with fail
        go_loopw [15] (fun c V => ∃ (i : Nat) (W' : World), W' = V ∧ i ≤ k ∧ c = .int .i64 i ∧ Hid (Kp10 w s g gb gu k L (cpy B U i) U V)) (fun c _ => k - (intOf c).toNat)
        case atStart => exact ⟨0, _, rfl, Nat.zero_le _, rfl, HC0⟩
        case round =>
          obtain ⟨i, V, rfl, hi, rfl, HI⟩ := hrel
          have i0 : (0 : Int) ≤ (i : Int) := by omega
          by_cases hik : i < k
          · have i1 : (i : Int) < (k : Int) := by omega
            have hil : i < U.length := by rw [HL.out.2]; exact hik
            have c2 := HI.out.ru.cell i (bl_get hil)
            have c1 := HI.out.rb.cell i (bl_get (by rw [HI.out.lb]; exact hik))
            have f1 := HI.out.rb.fro i
            have h3 := HI.out.setB i (U.getD i false)
            rw [cpy_set _ _ _ hil (by rw [HL.out.1, HL.out.2])] at h3
            generalize U.getD i false = y at *
            generalize (cpy B U i).getD i false = y2 at *
            obtain ⟨V2, hV⟩ : ∃ V2, V.setCell ⟨gb, i, none⟩ (.bool y) = V2 := ⟨_, rfl⟩
            rw [hV] at h3
            have HV := Lib.hid hV
            have HI2 := Lib.hid h3
            clear h3 hil HI hV
            go_wp2_with fail
            rw [HV.out]
            go_roundw
            case rel => exact ⟨i + 1, _, rfl, by omega, by go_num, HI2⟩
            case measure => simp [intOf]; omega
          · have i1 : (k : Int) ≤ (i : Int) := by omega
            have HX : Hid (Kp10 w s g gb gu k L (L.map slBd) (L.map slUse) V) := Lib.hid (by
              have := HI.out
              rw [cpy_all _ _ _ (by rw [HL.out.2]; omega) (by rw [HL.out.1, HL.out.2])] at this
              rw [HCU.out.1, HCU.out.2]
              exact this)
            clear HI HC0 HCU HL hi
            go_wp2_with fail
            go_loopw [16, 17] (fun n c W => ∃ (i m : Nat) (W' : World), W' = W ∧ W = V ∧ i ≤ k ∧ m ≤ i ∧ c = .int .i64 i ∧ n = .int .i64 m ∧ Hid (m = ((L.map slUse).take i).count true)) (fun _ c _ => k - (intOf c).toNat)
            case atStart => exact ⟨0, 0, _, rfl, by trivial, Nat.zero_le _, Nat.le_refl _, rfl, rfl, Lib.hid (by simp)⟩
            case round =>
              obtain ⟨i, m, V0, rfl, rfl, hi, hmi, rfl, rfl, HI⟩ := hrel
              have i0 : (0 : Int) ≤ (i : Int) := by omega
              by_cases hik : i < k
              · have i1 : (i : Int) < (k : Int) := by omega
                have m0 : (0 : Int) ≤ (m : Int) := by omega
                have m1 : (m : Int) ≤ 31 := by omega
                have hil : i < (L.map slUse).length := by rw [HX.out.lu]; exact hik
                have e1 := HX.out.ru.cell i (bl_get hil)
                have hc := cnt_true (L.map slUse) i hil
                obtain ⟨y, hy⟩ : ∃ y, (L.map slUse).getD i false = y := ⟨_, rfl⟩
                rw [hy] at e1 hc
                clear hy hil
                cases y with
                | true =>
                  rw [if_pos rfl, ← HI.out] at hc
                  have HI2 := Lib.hid hc.symm
                  clear HI hc
                  go_wp2_with fail
                  go_roundw
                  case rel => exact ⟨i + 1, m + 1, _, rfl, by trivial, by omega, by omega, by go_num, by go_num, HI2⟩
                  case measure => simp [intOf]; omega
                | false =>
                  rw [if_neg (by decide), ← HI.out, Nat.add_zero] at hc
                  have HI2 := Lib.hid hc.symm
                  clear HI hc
                  go_wp2_with fail
                  go_roundw
                  case rel => exact ⟨i + 1, m, _, rfl, by trivial, by omega, by omega, by go_num, rfl, HI2⟩
                  case measure => simp [intOf]; omega
              · have i1 : (k : Int) ≤ (i : Int) := by omega
                have hm : m = (usedL L L.length).length := by
                  rw [HI.out, List.take_of_length_le (by rw [HX.out.lu]; omega), usedL_all, List.count_eq_countP, List.countP_map]
                  refine List.countP_congr fun x _ => ?_
                  simp [slUse]
                have h3 := ok4_three HX.out.a.ok
                rw [← usedL_all, ← hm, HX.out.a.len] at h3
                clear HI
                have CU := slUsed s g _ _ HX.out.a.sl
                have HM := Lib.hid hm
                have HCU := Lib.hid CU
                clear CU hm
                go_wp2_with fail
                refine HCU.out.mono ?_
                rintro e W9 ⟨v9, rfl, h9, k9⟩
                have HY : Hid (Kp10 w s g gb gu k L (L.map slBd) (L.map slUse) W9) := Lib.hid (HX.out.old k9)
                obtain ⟨au, cu, rfl, _⟩ := h9.shape
                rw [← HM.out]
                have FR := Lib.hid (slFree s g _ W9 HY.out.a.sl)
                have WA := Lib.hid (slWaits s g _ W9 HY.out.a.sl)
                obtain ⟨F, hF⟩ : ∃ F, L.count 0 = F := ⟨_, rfl⟩
                obtain ⟨A, hA⟩ : ∃ A, L.count 3 = A := ⟨_, rfl⟩
                rw [hF] at FR h3
                rw [hA] at WA h3
                have h4 : (F : Int) + (A : Int) + (m : Int) = (k : Int) := by omega
                have F0 : (0 : Int) ≤ (F : Int) := by omega
                have F1 : (F : Int) ≤ 31 := by omega
                have A0 : (0 : Int) ≤ (A : Int) := by omega
                have A1 : (A : Int) ≤ 31 := by omega
                have m0 : (0 : Int) ≤ (m : Int) := by omega
                have m1 : (m : Int) ≤ 31 := by omega
                clear h9 k9 hF hA HCU HX h3
                go_wp2_with (first | (go_at_call 20; refine WA.out.mono ?_; rintro e _ ⟨rfl, rfl⟩) | (go_at_call 18; refine FR.out.mono ?_; rintro e _ ⟨rfl, rfl⟩))
                clear FR WA
                have HX := HY
                go_roundw
                case rel => exact ⟨j + 1, _, _, rfl, by omega, by go_num, HX⟩
                case measure => simp [intOf]; omega
    · have d1 : ¬ (j : Int) < (len : Int) := by omega
      have CN := Lib.hid (And.intro (slTakeNil W) (And.intro (slMoveNil W) (And.intro (slCommitNil W) (And.intro (slGiveNil 0 W) (And.intro (slMarkNil 0 W) (And.intro (slLenNil W) (And.intro (slFreeNil W) (And.intro (slRoomNil W) (And.intro (slWaitsNil W) (slUsedNil W))))))))))
      go_wp2_with (first | (go_at_call 9; refine CN.out.1.mono ?_; rintro e _ ⟨rfl, rfl⟩) | (go_at_call 10; refine CN.out.2.1.mono ?_; rintro e _ ⟨rfl, rfl⟩) | (go_at_call 14; refine CN.out.2.2.1.mono ?_; rintro e _ ⟨rfl, rfl⟩) | (go_at_call 12; refine CN.out.2.2.2.1.mono ?_; rintro e _ ⟨rfl, rfl⟩) | (go_at_call 16; refine CN.out.2.2.2.2.1.mono ?_; rintro e _ ⟨rfl, rfl⟩) | (go_at_call 17; refine CN.out.2.2.2.2.2.1.mono ?_; rintro e _ ⟨rfl, rfl⟩) | (go_at_call 18; refine CN.out.2.2.2.2.2.2.1.mono ?_; rintro e _ ⟨rfl, rfl⟩) | (go_at_call 19; refine CN.out.2.2.2.2.2.2.2.1.mono ?_; rintro e _ ⟨rfl, rfl⟩) | (go_at_call 20; refine CN.out.2.2.2.2.2.2.2.2.1.mono ?_; rintro e _ ⟨rfl, rfl⟩) | (go_at_call 21; refine CN.out.2.2.2.2.2.2.2.2.2.mono ?_; rintro e _ ⟨rfl, rfl⟩))
      go_ret
      exact ⟨rfl, HJ.out.a.kept⟩

end Go.Proofs.Yteppjjgnkjkfhaa
